import PyProof.Rows.All
import Wide.All
import OpenK.AllK
import Wide.FinOn
import Lean
import PyProof.EqAt
import PyProof.EqKinds
import PyProof.TupleCall
import PySem.Challenge.RW_byestand_k09_seats_of_two_fields
import KE.KNestM
set_option Elab.async false
set_option linter.all false
set_option maxRecDepth 100000
/-! THE HAND LAYER, for ints, bools, texts, own classes, LISTS and tuples (index, slices, in, append, pop ..), calls, loops. Paste it whole ahead of your own text; what your proof does not reach may be deleted. -/
namespace L2
open PySem PySem.Spec PyProof.Rows

abbrev Key := Sum Int Str
def keyIs : Key → Value → Bool
  | .inl k, v => Value.isInt k v
  | .inr x, v => Value.isStrOf x v
def keyH (w : World) : Key → Int
  | .inl k => hashInt k
  | .inr x => hashStr w x
theorem keyIs_shape : ∀ {k : Key} {v : Value}, keyIs k v = true → (∃ i t, k = Sum.inl i ∧ v = Value.int i t) ∨ (∃ x t, k = Sum.inr x ∧ v = Value.str x t)
  | .inl i, v, h => by
    obtain ⟨t, e⟩ := Value.isInt_shape (k := i) (v := v) h
    exact .inl ⟨i, t, rfl, e⟩
  | .inr x, v, h => by
    obtain ⟨t, e⟩ := Value.isStrOf_shape (x := x) (v := v) h
    exact .inr ⟨x, t, rfl, e⟩
theorem key_ll (a b : Int) : decide ((Sum.inl a : Key) = Sum.inl b) = (a == b) := by
  by_cases e : a = b
  · subst e; simp
  · have h : ¬ (Sum.inl a : Key) = Sum.inl b := fun q => e (Sum.inl.inj q)
    rw [decide_eq_false h]
    exact (beq_eq_false_iff_ne.mpr e).symm
theorem key_rr (a b : Str) : decide ((Sum.inr a : Key) = Sum.inr b) = decide (a = b) := by
  by_cases e : a = b
  · subst e; simp
  · have h : ¬ (Sum.inr a : Key) = Sum.inr b := fun q => e (Sum.inr.inj q)
    rw [decide_eq_false h, decide_eq_false e]
theorem key_lr (a : Int) (b : Str) : decide ((Sum.inl a : Key) = Sum.inr b) = false := decide_eq_false (fun q => nomatch q)
theorem key_rl (a : Str) (b : Int) : decide ((Sum.inr a : Key) = Sum.inl b) = false := decide_eq_false (fun q => nomatch q)

def mixKind (prog : Program) (w : World) : PySem.KeyKind prog w Key where
  is := keyIs
  hash := keyH w
  inj := fun v a b ha hb => by
    rcases keyIs_shape ha with ⟨i, t, rfl, rfl⟩ | ⟨x, t, rfl, rfl⟩
    · rcases keyIs_shape hb with ⟨j, u, rfl, e⟩ | ⟨y, u, rfl, e⟩
      · injection e with e1 _; rw [e1]
      · exact nomatch e
    · rcases keyIs_shape hb with ⟨j, u, rfl, e⟩ | ⟨y, u, rfl, e⟩
      · exact nomatch e
      · injection e with e1 _; rw [e1]
  byValue := fun k v h => by
    rcases keyIs_shape h with ⟨i, t, rfl, rfl⟩ | ⟨x, t, rfl, rfl⟩ <;> rfl
  pyHash := fun hv h => by
    rcases keyIs_shape hv with ⟨i, t, rfl, rfl⟩ | ⟨x, t, rfl, rfl⟩
    · exact wpAny_pyHash_int h
    · exact wpAny_pyHash_str h
  eqBool := fun hu hv h => by
    rcases keyIs_shape hu with ⟨i, t, rfl, rfl⟩ | ⟨x, t, rfl, rfl⟩
    · rcases keyIs_shape hv with ⟨j, u, rfl, rfl⟩ | ⟨y, u, rfl, rfl⟩
      · rw [key_ll] at h; exact wpAny_eqBool_int h
      · rw [key_lr] at h; exact SeqAt.EqAt.int_str i t y u _ _ _ _ h
    · rcases keyIs_shape hv with ⟨j, u, rfl, rfl⟩ | ⟨y, u, rfl, rfl⟩
      · rw [key_rl] at h; exact SeqAt.EqAt.str_int x t j u _ _ _ _ h
      · rw [key_rr] at h; exact wpAny_eqBool_str h
  «strs» := fun k x t v h => by
    rcases keyIs_shape h with ⟨i, u, rfl, e⟩ | ⟨y, u, rfl, e⟩
    · exact nomatch e
    · injection e with e1 _
      subst e1
      cases v <;> rfl

end L2

namespace L2
open PySem PySem.Spec PyProof.Rows

inductive V where
  | non | bl (b : Bool) | int (i : Int) | str (x : Str) | byt (b : Array UInt8) | flt (b : UInt64) | ref (a : Addr) | ty (n : String)
  deriving DecidableEq

def RelV : V → Value → Prop
  | .non, u => u = Value.none
  | .bl b, u => u = Value.bool b
  | .int i, u => ∃ t, u = Value.int i t
  | .str x, u => ∃ t, u = Value.str x t
  | .byt b, u => ∃ t, u = Value.bytes b t
  | .flt b, u => ∃ t, u = Value.float b t
  | .ref a, u => u = Value.ref a
  | .ty n, u => u = Value.type n

abbrev Vals : List V → List Value → Prop := Paired RelV
theorem Vals.length {xs : List V} {us : List Value} (r : Vals xs us) : xs.length = us.length := Paired.length r
theorem Vals.get : ∀ {xs : List V} {us : List Value} {i : Nat} {x : V}, Vals xs us → xs[i]? = some x → ∃ u, us[i]? = some u ∧ RelV x u
  | _, _, _, _, .nil, e => by simp at e
  | _, _, 0, _, .cons r _, e => by simp at e; subst e; exact ⟨_, rfl, r⟩
  | _, _, i + 1, x, .cons _ t, e => by
    obtain ⟨u, h1, h2⟩ := Vals.get (i := i) (x := x) t (by simpa using e)
    exact ⟨u, by simpa using h1, h2⟩
theorem Vals.set {x : V} {u : Value} (r : RelV x u) : ∀ {xs : List V} {us : List Value} (i : Nat), Vals xs us → Vals (xs.set i x) (us.set i u)
  | _, _, _, .nil => .nil
  | _, _, 0, .cons _ t => .cons r t
  | _, _, i + 1, .cons q t => .cons q (Vals.set r i t)
theorem Vals.append : ∀ {xs ys : List V} {us ws : List Value}, Vals xs us → Vals ys ws → Vals (xs ++ ys) (us ++ ws)
  | _, _, _, _, .nil, s => s
  | _, _, _, _, .cons r t, s => .cons r (Vals.append t s)
theorem Vals.take : ∀ {xs : List V} {us : List Value} (n : Nat), Vals xs us → Vals (xs.take n) (us.take n)
  | _, _, 0, _ => .nil
  | _, _, _ + 1, .nil => .nil
  | _, _, n + 1, .cons r t => .cons r (Vals.take n t)
theorem Vals.drop : ∀ {xs : List V} {us : List Value} (n : Nat), Vals xs us → Vals (xs.drop n) (us.drop n)
  | _, _, 0, r => r
  | _, _, _ + 1, .nil => .nil
  | _, _, n + 1, .cons _ t => Vals.drop n t
theorem Vals.none_of : ∀ {xs : List V} {us : List Value} {i : Nat}, Vals xs us → xs[i]? = none → us[i]? = none := fun {xs us i} r e => by
  have h1 := r.length
  have h2 : xs.length ≤ i := List.getElem?_eq_none_iff.mp e
  exact List.getElem?_eq_none_iff.mpr (by omega)

def RelO : Option V → Option Value → Prop
  | some v, some u => RelV v u
  | none, none => True
  | _, _ => False
def KV {κ : Type} : List (κ × V) → List (κ × Value) → Prop := Paired fun (p : κ × V) (q : κ × Value) => p.1 = q.1 ∧ RelV p.2 q.2

def kV : Key → V
  | .inl i => .int i
  | .inr x => .str x

inductive HO where
    | lst (xs : List V)
    | tup (xs : List V)
    | dK (kvs : List (Key × V)) | dT (kvs : List (List Key × V))
    | set (S : Int → Bool) (n : Nat)
    | ins (C dx : Addr) (fs : List (Str × V))
    | own (x : Addr)
    | xd (fs : List (Str × V))
    | met (f x : Addr)
    | rng (lo hi : Int)
    | frz (o : Obj) (u : HO)
    | tbl (ps : Array Value)
    | ext (φ : Heap → Prop)

abbrev Hp := Addr → Option HO
def upd (H : Hp) (a : Addr) (o : HO) : Hp := fun b => if b = a then some o else H b
theorem upd_same {H : Hp} {a : Addr} {o : HO} : upd H a o a = some o := by unfold upd; rw [if_pos rfl]
theorem upd_ne {H : Hp} {a b : Addr} {o : HO} (h : b ≠ a) : upd H a o b = H b := by unfold upd; rw [if_neg h]
theorem ne_of_none {H : Hp} {a b : Addr} {o : HO} (h : H a = some o) (h' : H b = none) : a ≠ b := by
  intro e; subst e; rw [h] at h'; cases h'

section
variable (P : Program) (w : World)
def ObjOk (H : Hp) (h : Heap) (a : Addr) : HO → Prop
  | .lst xs => xs.length ≤ sizeLine ∧ ∃ (its : List Value) (n : Nat), Vals xs its ∧ h.get? a = some { cls := .type "list", data := .seq its.toArray n }
  | .tup xs => xs.length ≤ sizeLine ∧ ∃ its : List Value, Vals xs its ∧ IsTup h a its.toArray
  | .dK kvs => kvs.length ≤ sizeLine ∧ (a == sysModules) = false ∧ ∃ vs, KV kvs vs ∧ h.DictOf (mixKind P w) a vs
  | .dT kvs => kvs.length ≤ sizeLine ∧ (a == sysModules) = false ∧ ∃ xs : List (List Key × Addr × Value),
      Paired (fun (p : List Key × V) (q : List Key × Addr × Value) => p.1 = q.1 ∧ H q.2.1 = some (.tup (p.1.map kV)) ∧ RelV p.2 q.2.2) kvs xs ∧
      ∃ o es ep, h.get? a = some o ∧ o.ExactDict ∧ o.data = .dict es ep ∧ es.toList = xs.map (entryOfKey (tupleKind (mixKind P w))) ∧ (xs.map (·.1)).Nodup
  | .set S n => h.SetOf (intKind P w) a S n
  | .ins C dx fs => H dx = some (.own a) ∧ fs.length ≤ 1000 ∧ dx ≠ a ∧ h.get? a = some (PySem.W.instObj C dx) ∧
      ∃ mA, h.Ns1 dx mA ∧ (∀ f, RelO (fs.lookup f) (mA f)) ∧ PySem.Within mA (fs.map (·.1))
  | .own _ => ∃ o, h.get? a = some o
  | .xd fs => ∃ mA, h.Ns1 a mA ∧ ∀ f, RelO (fs.lookup f) (mA f)
  | .rng lo hi => ∃ t u v, h.get? a = some { cls := .type "range", data := .fields #[.int lo t, .int hi u, .int 1 v] }
  | .frz o u => h.get? a = some o ∧ ObjOk H h a u
  | .tbl ps => h.get? a = some { cls := .none, data := .fields ps }
  | .met f x => h.get? a = some (PySem.W.methodObj (.ref f) (.ref x))
  | .ext φ => φ h ∧ (∃ o, h.get? a = some o) ∧ ∀ h1 h2 : Heap, φ h1 → (∀ o, h1.get? a = some o → h2.get? a = some o) → φ h2
def HOk (H : Hp) (h : Heap) : Prop := ∀ a o, H a = some o → ObjOk P w H h a o
end

section
variable {P : Program} {w : World} {H H' : Hp} {h h' : Heap} {a : Addr} {o : HO}
theorem ObjOk.lt (x : ObjOk P w H h a o) : a < h.objs.size := by
  cases o with
  | lst xs => obtain ⟨_, _, _, _, e⟩ := x; exact Heap.lt_size e
  | tup xs => obtain ⟨_, _, _, p⟩ := x; exact p.lt
  | dK kvs => obtain ⟨_, _, _, _, o, _, _, e, _⟩ := x; exact Heap.lt_size e
  | dT kvs => obtain ⟨_, _, _, _, o, _, _, e, _⟩ := x; exact Heap.lt_size e
  | set S n => obtain ⟨o, _, _, _, e, _⟩ := x; exact Heap.lt_size e
  | ins C dx fs => obtain ⟨_, _, _, e, _⟩ := x; exact Heap.lt_size e
  | own y => obtain ⟨_, e⟩ := x; exact Heap.lt_size e
  | xd fs => obtain ⟨_, ⟨_, _, _, e, _⟩, _⟩ := x; exact Heap.lt_size e
  | rng lo hi => obtain ⟨_, _, _, e⟩ := x; exact Heap.lt_size e
  | frz ob u => obtain ⟨e, _⟩ := x; exact Heap.lt_size e
  | tbl ps => exact Heap.lt_size (show h.get? a = some _ from x)
  | met f y => exact Heap.lt_size (show h.get? a = some _ from x)
  | ext φ => obtain ⟨_, ⟨_, e⟩, _⟩ := x; exact Heap.lt_size e
theorem Paired.mapP {α β : Type} {F G : α → β → Prop} : ∀ {l₁ : List α} {l₂ : List β}, Paired F l₁ l₂ → (∀ a b, F a b → G a b) → Paired G l₁ l₂
  | _, _, .nil, _ => .nil
  | _, _, .cons r t, f => .cons (f _ _ r) (Paired.mapP t f)
theorem ObjOk.stay (x : ObjOk P w H h a o) (k : ∀ b u, (b = a ∨ H b = some (.own a)) → h.get? b = some u → h'.get? b = some u)
    (ho : ∀ b, H b = some (.own a) → H' b = some (.own a)) (ht : ∀ b xs, H b = some (.tup xs) → H' b = some (.tup xs)) : ObjOk P w H' h' a o := by
  induction o with
  | lst xs => obtain ⟨z, its, n, r, e⟩ := x; exact ⟨z, its, n, r, k _ _ (.inl rfl) e⟩
  | tup xs => obtain ⟨z, its, r, ob, e, c⟩ := x; exact ⟨z, its, r, ob, k _ _ (.inl rfl) e, c⟩
  | dK kvs => obtain ⟨z, y, vs, r, ob, es, ep, e, c⟩ := x; exact ⟨z, y, vs, r, ob, es, ep, k _ _ (.inl rfl) e, c⟩
  | dT kvs =>
    obtain ⟨z, y, xs, r, ob, es, ep, e, c⟩ := x
    exact ⟨z, y, xs, Paired.mapP r fun p q z => ⟨z.1, ht _ _ z.2.1, z.2.2⟩, ob, es, ep, k _ _ (.inl rfl) e, c⟩
  | set S n => obtain ⟨ob, es, ep, t, e, c⟩ := x; exact ⟨ob, es, ep, t, k _ _ (.inl rfl) e, c⟩
  | ins C dx fs =>
    obtain ⟨d, z, ne, e, mA, ⟨od, es, ep, e2, c⟩, r⟩ := x
    exact ⟨ho _ d, z, ne, k _ _ (.inl rfl) e, mA, ⟨od, es, ep, k _ _ (.inr d) e2, c⟩, r⟩
  | own y => obtain ⟨ob, e⟩ := x; exact ⟨ob, k _ _ (.inl rfl) e⟩
  | xd fs => obtain ⟨mA, ⟨od, es, ep, e, c⟩, r⟩ := x; exact ⟨mA, ⟨od, es, ep, k _ _ (.inl rfl) e, c⟩, r⟩
  | rng lo hi => obtain ⟨t, u, v, e⟩ := x; exact ⟨t, u, v, k _ _ (.inl rfl) e⟩
  | frz ob u ih => obtain ⟨e, q⟩ := x; exact ⟨k _ _ (.inl rfl) e, ih q⟩
  | tbl ps =>
    have e : h.get? a = some { cls := .none, data := .fields ps } := x
    show h'.get? a = some { cls := .none, data := .fields ps }
    exact k a _ (.inl rfl) e
  | met f y =>
    have e : h.get? a = some (PySem.W.methodObj (.ref f) (.ref y)) := x
    show h'.get? a = some (PySem.W.methodObj (.ref f) (.ref y))
    exact k a _ (.inl rfl) e
  | ext φ => obtain ⟨p, ⟨o, e⟩, st⟩ := x; exact ⟨st _ _ p fun o q => k _ _ (.inl rfl) q, ⟨o, k _ _ (.inl rfl) e⟩, st⟩
theorem HOk.lt (x : HOk P w H h) (e : H a = some o) : a < h.objs.size := (x a o e).lt
theorem HOk.fresh (x : HOk P w H h) (e : h.objs.size ≤ a) : H a = none := by
  cases q : H a with
  | none => rfl
  | some u => exact absurd (Nat.lt_of_lt_of_le (x.lt q) e) (Nat.lt_irrefl _)
theorem HOk.kept (x : HOk P w H h) (k : ∀ b u, h.get? b = some u → h'.get? b = some u) : HOk P w H h' := fun a o e =>
  (x a o e).stay (fun b u _ q => k b u q) (fun _ q => q) fun _ _ q => q
theorem HOk.laid (x : HOk P w H h) (k : ∀ b u, h.get? b = some u → h'.get? b = some u) (hp : h.objs.size ≤ a) (new : ObjOk P w (upd H a o) h' a o) : HOk P w (upd H a o) h' := fun b u e => by
  have hn := x.fresh hp
  by_cases hb : b = a
  · subst hb; rw [upd_same] at e; cases e; exact new
  · rw [upd_ne hb] at e
    exact (x b u e).stay (fun c v _ q => k c v q) (fun c q => by rw [upd_ne (ne_of_none q hn)]; exact q) fun c xs q => by rw [upd_ne (ne_of_none q hn)]; exact q
end

def Rd (H : Hp) (a : Addr) (u : HO) : Prop := H a = some u ∨ ∃ o, H a = some (.frz o u)
theorem Rd.of {H : Hp} {a : Addr} {u : HO} (h : H a = some u) : Rd H a u := .inl h
theorem Rd.ok {P : Program} {w : World} {H : Hp} {h : Heap} {a : Addr} {u : HO} (r : Rd H a u) (x : HOk P w H h) : ObjOk P w H h a u := by
  rcases r with r | ⟨o, r⟩
  · exact x a u r
  · obtain ⟨_, q⟩ := x a _ r
    exact q
def Mut : Option HO → Prop
  | some (.lst _) => True
  | some (.dK _) => True
  | some (.dT _) => True
  | some (.set _ _) => True
  | some (.ins _ _ _) => True
  | some (.ext _) => True
  | _ => False
section
variable {P : Program} {w : World} {H : Hp} {h h' : Heap} {x e : Addr} {o' : HO}
theorem HOk.write (ok : HOk P w H h) (mu : Mut (H x)) (he : e = x ∨ H e = some (.own x)) (k : ∀ b u, b ≠ e → h.get? b = some u → h'.get? b = some u) (heo : ∃ u, h'.get? e = some u)
    (new : ObjOk P w (upd H x o') h' x o') : HOk P w (upd H x o') h' := fun b u q => by
  have nown : ∀ c y, H c = some (.own y) → c ≠ x := fun c y r z => by subst z; rw [r] at mu; exact mu
  have ntup : ∀ c xs, H c = some (.tup xs) → c ≠ x := fun c xs r z => by subst z; rw [r] at mu; exact mu
  by_cases hb : b = x
  · subst hb; rw [upd_same] at q; cases q; exact new
  · rw [upd_ne hb] at q
    by_cases hbe : b = e
    · have q' : H b = some (.own x) := by
        rcases he with z | z
        · exact absurd (hbe.trans z) hb
        · rw [hbe]; exact z
      rw [q] at q'; cases q'
      obtain ⟨v, hv⟩ := heo
      exact ⟨v, by rw [hbe]; exact hv⟩
    · refine (ok b u q).stay (fun c v hc r => k c v ?_ r) (fun c r => by rw [upd_ne (nown c b r)]; exact r) fun c xs r => by rw [upd_ne (ntup c xs r)]; exact r
      rcases hc with rfl | hc
      · exact hbe
      · rintro rfl
        rcases he with z | z
        · exact nown c b hc z
        · rw [hc] at z; cases z; exact hb rfl
end

/-! ### kept unless tracked; of the frames at fs (the callers') the slots may change (an exception that passes writes there); of the records at ex (iterators) nothing is said -/
structure Un (fs ex : List Addr) (H H' : Hp) (h h' : Heap) : Prop where
  keep : ∀ b o, h.get? b = some o → H b = none → b ∉ fs → b ∉ ex → h'.get? b = some o
  slot : ∀ b o, h.get? b = some o → H b = none → b ∈ fs → b ∉ ex → ∃ sl, h'.get? b = some { o with slots := sl }
  free : ∀ b o, h.get? b = some o → H b = none → b ∉ ex → H' b = none
  there : ∀ b o, h.get? b = some o → b ∉ ex → ∃ o', h'.get? b = some o'
  tups : ∀ b xs, H b = some (.tup xs) → H' b = some (.tup xs)
  frzs : ∀ b o u, H b = some (.frz o u) → H' b = some (.frz o u)
  tbls : ∀ b ps, H b = some (.tbl ps) → ∃ more, H' b = some (.tbl (ps ++ more))
section
variable {fs fs' ex ex' : List Addr} {H H1 H2 : Hp} {h h1 h2 h' : Heap} {a x e : Addr} {o : HO}
theorem Un.any (u : Un fs ex H H1 h h1) {b : Addr} {ob : Obj} (q : h.get? b = some ob) (n : H b = none) (hx : b ∉ ex) : ∃ sl, h1.get? b = some { ob with slots := sl } := by
  by_cases hb : b ∈ fs
  · exact u.slot b ob q n hb hx
  · exact ⟨ob.slots, u.keep b ob q n hb hx⟩
theorem Un.trans (a : Un fs ex H H1 h h1) (b : Un fs ex H1 H2 h1 h2) : Un fs ex H H2 h h2 where
  keep := fun c ob q n hc hx => b.keep c ob (a.keep c ob q n hc hx) (a.free c ob q n hx) hc hx
  slot := fun c ob q n hc hx => by
    obtain ⟨sl, e1⟩ := a.slot c ob q n hc hx
    obtain ⟨sl', e2⟩ := b.slot c _ e1 (a.free c ob q n hx) hc hx
    exact ⟨sl', e2⟩
  free := fun c ob q n hx => by
    obtain ⟨o', e1⟩ := a.there c ob q hx
    exact b.free c o' e1 (a.free c ob q n hx) hx
  there := fun c ob q hx => by
    obtain ⟨o', e1⟩ := a.there c ob q hx
    exact b.there c o' e1 hx
  tups := fun c xs q => b.tups c xs (a.tups c xs q)
  frzs := fun c ob xs q => b.frzs c ob xs (a.frzs c ob xs q)
  tbls := fun c ps q => by
    obtain ⟨m1, e1⟩ := a.tbls c ps q
    obtain ⟨m2, e2⟩ := b.tbls c _ e1
    exact ⟨m1 ++ m2, by rw [e2, Array.append_assoc]⟩
theorem Un.kept (k : ∀ b u, h.get? b = some u → h'.get? b = some u) : Un fs ex H H h h' :=
  ⟨fun b ob q _ _ _ => k b ob q, fun b ob q _ _ _ => ⟨ob.slots, k b ob q⟩, fun _ _ _ n _ => n, fun b ob q _ => ⟨ob, k b ob q⟩, fun _ _ q => q, fun _ _ _ q => q, fun _ ps q => ⟨#[], by rw [q]; simp⟩⟩
theorem Un.refl : Un fs ex H H h h := Un.kept fun _ _ q => q
theorem Un.laid (k : ∀ b u, h.get? b = some u → h'.get? b = some u) (hp : h.objs.size ≤ a) (hn : H a = none) : Un fs ex H (upd H a o) h h' where
  keep := fun b u q _ _ _ => k b u q
  slot := fun b u q _ _ _ => ⟨u.slots, k b u q⟩
  free := fun b u q n _ => by rw [upd_ne (Nat.ne_of_lt (Nat.lt_of_lt_of_le (Heap.lt_size q) hp))]; exact n
  there := fun b u q _ => ⟨u, k b u q⟩
  tups := fun b xs q => by rw [upd_ne (ne_of_none q hn)]; exact q
  frzs := fun b u xs q => by rw [upd_ne (ne_of_none q hn)]; exact q
  tbls := fun b ps q => ⟨#[], by rw [upd_ne (ne_of_none q hn), q]; simp⟩
theorem Un.write (mu : Mut (H x)) (he : e = x ∨ H e = some (.own x)) (k : ∀ b u, b ≠ e → h.get? b = some u → h'.get? b = some u) (heo : ∃ u, h'.get? e = some u) : Un fs ex H (upd H x o) h h' := by
  have hx : ∀ b, H b = none → b ≠ x := fun b n z => by subst z; rw [n] at mu; exact mu
  have hb : ∀ b, H b = none → b ≠ e := fun b n z => by
    subst z
    rcases he with r | r
    · exact hx b n r
    · rw [n] at r; cases r
  have hm : ∀ b u, H b = some u → ¬ Mut (some u) → b ≠ x := fun b u q nm z => by subst z; rw [q] at mu; exact nm mu
  refine ⟨fun b u q n _ _ => k b u (hb b n) q, fun b u q n _ _ => ⟨u.slots, k b u (hb b n) q⟩, fun b u q n _ => by rw [upd_ne (hx b n)]; exact n, fun b u q _ => ?_,
    fun b xs q => by rw [upd_ne (hm b _ q fun z => z)]; exact q, fun b u xs q => by rw [upd_ne (hm b _ q fun z => z)]; exact q, fun b ps q => ⟨#[], by rw [upd_ne (hm b _ q fun z => z), q]; simp⟩⟩
  by_cases hbe : b = e
  · subst hbe; exact heo
  · exact ⟨u, k b u hbe q⟩
theorem Un.mono (u : Un fs ex H H1 h h1) (hs : ∀ b ∈ fs, b ∈ fs') (hx : ∀ b ∈ ex, b ∈ ex') : Un fs' ex' H H1 h h1 :=
  ⟨fun b ob q n hb he => u.keep b ob q n (fun z => hb (hs b z)) fun z => he (hx b z), fun _ _ q n _ he => u.any q n fun z => he (hx _ z), fun b ob q n he => u.free b ob q n fun z => he (hx b z), fun b ob q he => u.there b ob q fun z => he (hx b z), u.tups, u.frzs, u.tbls⟩
end

/-! ### the heap without what is tracked -/
def trk (h : Heap) (H : Hp) : List Addr := (List.range h.objs.size).filter fun a => (H a).isSome
def hidT (h : Heap) (H : Hp) : Heap := PySem.W.hideAll h (trk h H)
theorem hidT_size (h : Heap) (H : Hp) : (hidT h H).objs.size = h.objs.size := PySem.W.hideAll_size _ _
theorem hidT_get {h : Heap} {H : Hp} {b : Addr} {o : Obj} (e : h.get? b = some o) (n : H b = none) : (hidT h H).get? b = some o :=
  PySem.W.hideAll_get _ e fun hm => by
    have q : (H b).isSome = true := (List.mem_filter.mp hm).2
    rw [n] at q; simp at q
theorem of_hidT {h : Heap} {H : Hp} {b : Addr} {o : Obj} (e : (hidT h H).get? b = some o) : h.get? b = some o ∧ H b = none := by
  have e' : h.get? b = some o := PySem.W.of_hideAll (trk h H) e
  refine ⟨e', ?_⟩
  cases q : H b with
  | none => rfl
  | some x =>
    have hm : b ∈ trk h H := List.mem_filter.mpr ⟨List.mem_range.mpr (Heap.lt_size e'), by simp [q]⟩
    have z : (hidT h H).get? b = none := PySem.W.hideAll_none (trk h H) hm
    rw [z] at e; cases e

/-! ### OpenK's ledger, filled with every new object but one -/
def allNews (g h : Heap) (L : Addr) : List (Addr × Obj) := (List.range h.objs.size).filterMap fun a => if a = L ∨ (g.get? a).isSome = true then none else (h.get? a).map fun o => (a, o)
def rest (g h : Heap) (L d : Addr) : List (Addr × Obj) := (allNews g h L).filter fun p => decide (p.1 ≠ d)
end L2

namespace L2
open PySem PySem.Spec PyProof.Rows

structure Mod (K : PySem.W.Frag) (mg : Str → Option Value) (base : Heap) : Prop where
  kin : K.In base
  glob : base.Ns mainGlobals mg
  blt : ∃ mb, base.Ns builtinsNs mb ∧ ∀ x : Str, x ≠ "__name__" → mb x = bootBuiltins x
  nolimit : base.NoLimit

structure Cx where
  prog : Program
  w : World
  K : PySem.W.Frag
  mg : Str → Option Value
  base : Heap
  A : Around
  N : List Str
  s₀ : Shared
  H₀ : Hp
  env : Env
  outer : List Env
  stack : List Env
  ex : List Addr
  fn : Str → Bool
  calm : Bool
  pn : List (Addr × Obj)
  xe : Value → Shared → Prop
def frs (l : List Env) : List Addr := l.filterMap (·.frame)
abbrev Cx.fs (X : Cx) : List Addr := frs X.outer

def Vis (sc : Scope) (x : Str) : Prop := sc.names.lookup x = some .local ∨ sc.names.lookup x = some .cell ∨ sc.names.lookup x = some .free
def Loc (sc : Scope) (x : Str) : Prop := sc.names.lookup x = some .local ∨ sc.names.lookup x = some .cell
def Look (env : Env) (h : Heap) (m : Str → Option Value) (x : Str) (u : Value) : Prop :=
  (env.kindOf x = some .local ∧ m x = some u) ∨ ((env.kindOf x = some .cell ∨ env.kindOf x = some .free) ∧ ∃ c, env.cells.lookup x = some c ∧ h.IsCell c (some u))

structure Cx.Ok (X : Cx) : Prop where
  mod : Mod X.K X.mg X.base
  kind : X.env.scope.kind = .function
  glob : X.env.globals = mainGlobals
  blt : X.env.builtins = builtinsNs
  above : X.s₀.heap.objs.size ≤ X.env.locals
  inj : ∀ x y c, X.env.cells.lookup x = some c → X.env.cells.lookup y = some c → x = y
  has : ∀ x, (X.env.kindOf x = some .cell ∨ X.env.kindOf x = some .free) → ∃ c, X.env.cells.lookup x = some c
  cab : ∀ x c, X.fn x = true → X.env.cells.lookup x = some c → X.s₀.heap.objs.size ≤ c
  hd : X.calm = true → X.A.handled = none
  frames : X.A.frames = some X.stack
  stk : X.stack = X.outer ∨ (X.stack = X.env :: X.outer ∧ X.env.frame = some X.env.locals)
  exf : ∀ b ∈ X.ex, b ≠ X.env.locals ∧ ∀ x c, X.env.cells.lookup x = some c → c ≠ b
  bs : ∀ b o, X.base.get? b = some o → X.s₀.heap.get? b = some o ∧ X.H₀ b = none
  bsz : X.base.objs.size ≤ X.s₀.heap.objs.size
  noex : ∀ b o, X.base.get? b = some o → b ∉ X.ex
  exfs : ∀ b ∈ X.ex, b ∉ X.fs
  funs : X.s₀.heap.FunFrames X.base X.outer
  frf : ∀ b ∈ X.fs, X.H₀ b = none

structure Inv (X : Cx) (pins : List (Addr × Obj)) (σ : List (Option V)) (H : Hp) (s : Shared) : Prop where
  ok : X.Ok
  os : s.os = X.s₀.os
  bare : AllBare s.gens
  base : Un X.fs X.ex X.H₀ H X.s₀.heap s.heap
  loc : ∃ m, s.heap.Ns X.env.locals m ∧ ∀ (i : Nat) (x : Str) (v : V), X.N[i]? = some x → σ[i]? = some (some v) → Vis X.env.scope x → ∃ u, RelV v u ∧ Look X.env s.heap m x u
  cell : ∀ x c, X.env.cells.lookup x = some c → ∃ v, s.heap.IsCell c v
  free : H X.env.locals = none
  freeC : ∀ x c, X.env.cells.lookup x = some c → H c = none
  pin : ∀ p ∈ X.pn ++ pins, s.heap.get? p.1 = some p.2 ∧ H p.1 = none ∧ p.1 ≠ X.env.locals ∧ p.1 ∉ X.fs ∧ ∀ v, p.2.data ≠ .cell v
  hok : HOk X.prog X.w H s.heap
  len : σ.length = X.N.length

section
variable {X : Cx} {pins : List (Addr × Obj)} {σ : List (Option V)} {H H' : Hp} {s : Shared} {h' : Heap}

theorem Cx.Ok.nofr (ok : X.Ok) {b : Addr} {o : Obj} (e : X.base.get? b = some o) : b ∉ X.fs := fun hb => by
  have := (ok.funs.mem hb).1
  rw [e] at this; cases this
theorem Inv.bs (I : Inv X pins σ H s) : ∀ b o, X.base.get? b = some o → s.heap.get? b = some o ∧ H b = none := fun b o e =>
  ⟨I.base.keep b o (I.ok.bs b o e).1 (I.ok.bs b o e).2 (I.ok.nofr e) (I.ok.noex b o e), I.base.free b o (I.ok.bs b o e).1 (I.ok.bs b o e).2 (I.ok.noex b o e)⟩
theorem Inv.bk (I : Inv X pins σ H s) : ∀ b o, X.base.get? b = some o → s.heap.get? b = some o := fun b o e => (I.bs b o e).1
theorem Inv.mod (I : Inv X pins σ H s) : Mod X.K X.mg X.base := I.ok.mod
theorem Inv.kIn (I : Inv X pins σ H s) : X.K.In s.heap := I.ok.mod.kin.keeps I.bk
theorem Inv.nolimit (I : Inv X pins σ H s) : s.heap.NoLimit := I.ok.mod.nolimit.keeps I.bk
theorem Inv.fr (I : Inv X pins σ H s) : ∃ m, Fr X.base X.env.locals s.heap m :=
  let ⟨m, hn, _⟩ := I.loc
  ⟨m, hn, I.bk, Nat.le_trans I.ok.bsz I.ok.above⟩
theorem Inv.lt (I : Inv X pins σ H s) : X.env.locals < s.heap.objs.size := let ⟨_, hn, _⟩ := I.loc; hn.lt
theorem Inv.sz (I : Inv X pins σ H s) : X.s₀.heap.objs.size ≤ s.heap.objs.size := Nat.le_trans I.ok.above (Nat.le_of_lt I.lt)
theorem Inv.nofs (I : Inv X pins σ H s) {a : Addr} (h : s.heap.objs.size ≤ a) : a ∉ X.fs := fun hb => by
  obtain ⟨_, o, ho, _⟩ := I.ok.funs.mem hb
  exact absurd (Nat.lt_of_lt_of_le (Heap.lt_size ho) (Nat.le_trans I.sz h)) (Nat.lt_irrefl _)
theorem Inv.cne (I : Inv X pins σ H s) : ∀ x c, X.env.cells.lookup x = some c → c ≠ X.env.locals := fun x c e z => by
  obtain ⟨v, o, ho, hd⟩ := I.cell x c e
  obtain ⟨m, ⟨o', es, ep, ho', hd', _⟩, _⟩ := I.loc
  rw [z, ho'] at ho; cases ho; rw [hd'] at hd; cases hd
theorem Inv.funs (I : Inv X pins σ H s) : s.heap.FunFrames X.base X.outer := by
  have all : ∀ (l : List Env), (∀ b ∈ frs l, b ∈ X.fs) → X.s₀.heap.FunFrames X.base l → s.heap.FunFrames X.base l := by
    intro l
    induction l with
    | nil => intro _ _; trivial
    | cons env r ih =>
      intro hs hl
      obtain ⟨hk, ⟨L, o, hf, hn, ho, hd⟩, hr⟩ := hl
      have hL : L ∈ X.fs := hs L (by unfold frs; rw [List.filterMap_cons, hf]; exact List.mem_cons_self)
      obtain ⟨sl, e⟩ := I.base.slot L o ho (I.ok.frf L hL) hL fun z => I.ok.exfs L z hL
      exact ⟨hk, ⟨L, _, hf, hn, e, hd⟩, ih (fun b hb => hs b (by unfold frs; rw [List.filterMap_cons, hf]; exact List.mem_cons_of_mem _ hb)) hr⟩
  exact all X.outer (fun _ hb => hb) I.ok.funs

theorem Inv.stack (I : Inv X pins σ H s) : s.heap.FunFrames X.base X.stack := by
  rcases I.ok.stk with e | ⟨e, hf⟩
  · rw [e]; exact I.funs
  · rw [e]
    obtain ⟨m, hn, _⟩ := I.loc
    refine .cons (by rw [I.ok.kind]; decide) hf hn ?_ I.funs
    exact Heap.get?_none_of_le (Nat.le_trans I.ok.bsz I.ok.above)
theorem Inv.stkSub (I : Inv X pins σ H s) : ∀ b ∈ frs X.stack, b ∈ X.env.locals :: X.fs := fun b hb => by
  rcases I.ok.stk with e | ⟨e, hf⟩
  · rw [e] at hb; exact List.mem_cons_of_mem _ hb
  · rw [e] at hb
    unfold frs at hb
    rw [List.filterMap_cons, hf] at hb
    exact hb
theorem Inv.stkFree (I : Inv X pins σ H s) : ∀ b ∈ frs X.stack, H b = none := fun b hb => by
  rcases List.mem_cons.mp (I.stkSub b hb) with e | hb
  · rw [e]; exact I.free
  · obtain ⟨_, o, ho, _⟩ := I.ok.funs.mem hb
    exact I.base.free b o ho (I.ok.frf b hb) fun z => I.ok.exfs b z hb

theorem Inv.step {g' : Array GenState} {t' : Nat} {d' : Drawn} {ch : List Addr} (I : Inv X pins σ H s)
    (hch : ∀ b ∈ ch, (b ∈ X.ex ∨ X.s₀.heap.objs.size ≤ b) ∧ b ≠ X.env.locals ∧ (∀ x c, X.env.cells.lookup x = some c → c ≠ b) ∧ ∀ p ∈ X.pn ++ pins, p.1 ≠ b)
    (keep : ∀ b o, b ≠ X.env.locals → b ∉ X.fs → b ∉ ch → s.heap.get? b = some o → H b = none → h'.get? b = some o)
    (slot : ∀ b o, b ≠ X.env.locals → b ∈ X.fs → b ∉ ch → s.heap.get? b = some o → H b = none → ∃ sl, h'.get? b = some { o with slots := sl }) (free : ∀ b o, b ∉ ch → s.heap.get? b = some o → H b = none → H' b = none)
    (there : ∀ b o, b ∉ ch → s.heap.get? b = some o → ∃ o', h'.get? b = some o')
    (tups : ∀ b xs, H b = some (.tup xs) → H' b = some (.tup xs)) (frzs : ∀ b o u, H b = some (.frz o u) → H' b = some (.frz o u)) (tbls : ∀ b ps, H b = some (.tbl ps) → ∃ more, H' b = some (.tbl (ps ++ more)))
    (ns : ∀ m, s.heap.Ns X.env.locals m → h'.Ns X.env.locals m) (hok : HOk X.prog X.w H' h') (hg : AllBare g') :
    Inv X pins σ H' { s with heap := h', gens := g', drawn := d', toks := t' } := by
  have neL : ∀ b o, X.s₀.heap.get? b = some o → b ≠ X.env.locals := fun b o e => Nat.ne_of_lt (Nat.lt_of_lt_of_le (Heap.lt_size e) I.ok.above)
  have neC : ∀ b o, X.s₀.heap.get? b = some o → b ∉ X.ex → b ∉ ch := fun b o e hx hb => by
    rcases (hch b hb).1 with z | z
    · exact hx z
    · exact absurd (Nat.lt_of_lt_of_le (Heap.lt_size e) z) (Nat.lt_irrefl _)
  have cellK : ∀ x c, X.env.cells.lookup x = some c → ∀ v, s.heap.IsCell c v → h'.IsCell c v := fun x c e v ⟨o, ho, hd⟩ => by
    have nch : c ∉ ch := fun z => (hch c z).2.2.1 x c e rfl
    by_cases hc : c ∈ X.fs
    · obtain ⟨sl, q⟩ := slot c o (I.cne x c e) hc nch ho (I.freeC x c e)
      exact ⟨_, q, hd⟩
    · exact ⟨o, keep c o (I.cne x c e) hc nch ho (I.freeC x c e), hd⟩
  refine ⟨I.ok, I.os, hg, ⟨fun b o e n hb hx => ?_, fun b o e n hb hx => ?_, fun b o e n hx => ?_, fun b o e hx => ?_, fun b xs e => tups b xs (I.base.tups b xs e), fun b o xs e => frzs b o xs (I.base.frzs b o xs e), fun b ps e => ?_⟩, ?_, fun x c e => ?_, ?_, fun x c e => ?_, fun p hp => ?_, hok, I.len⟩
  · exact keep b o (neL b o e) hb (neC b o e hx) (I.base.keep b o e n hb hx) (I.base.free b o e n hx)
  · obtain ⟨sl, e1⟩ := I.base.slot b o e n hb hx
    obtain ⟨sl', e2⟩ := slot b _ (neL b o e) hb (neC b o e hx) e1 (I.base.free b o e n hx)
    exact ⟨sl', e2⟩
  · obtain ⟨o', e1⟩ := I.base.there b o e hx
    exact free b o' (neC b o e hx) e1 (I.base.free b o e n hx)
  · obtain ⟨o', e1⟩ := I.base.there b o e hx
    exact there b o' (neC b o e hx) e1
  · obtain ⟨m1, e1⟩ := I.base.tbls b ps e
    obtain ⟨m2, e2⟩ := tbls b _ e1
    exact ⟨m1 ++ m2, by rw [e2, Array.append_assoc]⟩
  · obtain ⟨m, hn, hl⟩ := I.loc
    refine ⟨m, ns m hn, fun i x v e1 e2 e3 => ?_⟩
    obtain ⟨u, r, l⟩ := hl i x v e1 e2 e3
    refine ⟨u, r, ?_⟩
    rcases l with l | ⟨k, c, e, z⟩
    · exact .inl l
    · exact .inr ⟨k, c, e, cellK x c e _ z⟩
  · obtain ⟨v, z⟩ := I.cell x c e
    exact ⟨v, cellK x c e v z⟩
  · obtain ⟨m, ⟨o, _, _, ho, _⟩, _⟩ := I.loc
    exact free _ o (fun z => (hch _ z).2.1 rfl) ho I.free
  · obtain ⟨v, o, ho, hd⟩ := I.cell x c e
    exact free c o (fun z => (hch c z).2.2.1 x c e rfl) ho (I.freeC x c e)
  · obtain ⟨e, n, ne, nf, d⟩ := I.pin p hp
    have nch : p.1 ∉ ch := fun z => (hch p.1 z).2.2.2 p hp rfl
    exact ⟨keep p.1 p.2 ne nf nch e n, free p.1 p.2 nch e n, ne, nf, d⟩
theorem Inv.un {t' : Nat} (I : Inv X pins σ H s) (u : Un X.fs [] H H' s.heap h') (hok : HOk X.prog X.w H' h') : Inv X pins σ H' { s with heap := h', toks := t' } := by
  obtain ⟨m, ⟨o, es, ep, ho, r⟩, _⟩ := id I.loc
  obtain ⟨sl, hL⟩ := u.any ho I.free (by simp)
  exact I.step (g' := s.gens) (d' := s.drawn) (ch := []) (fun _ z => nomatch z) (fun b o _ hb _ e n => u.keep b o e n hb (by simp)) (fun b o _ hb _ e n => u.slot b o e n hb (by simp)) (fun b o _ e n => u.free b o e n (by simp)) (fun b o _ e => u.there b o e (by simp)) u.tups u.frzs u.tbls (fun m' hm => by
    obtain ⟨o', es', ep', ho', r'⟩ := hm
    rw [ho] at ho'; cases ho'
    exact ⟨_, es', ep', hL, r'⟩) hok I.bare
theorem Inv.call {g' : Array GenState} {t' : Nat} {d' : Drawn} {ch : List Addr} (I : Inv X pins σ H s) (u : Un (frs X.stack) ch H H' s.heap h') (hok : HOk X.prog X.w H' h') (hg : AllBare g')
    (hch : ∀ b ∈ ch, (b ∈ X.ex ∨ X.s₀.heap.objs.size ≤ b) ∧ b ≠ X.env.locals ∧ (∀ x c, X.env.cells.lookup x = some c → c ≠ b) ∧ ∀ p ∈ X.pn ++ pins, p.1 ≠ b) :
    Inv X pins σ H' { s with heap := h', gens := g', drawn := d', toks := t' } := by
  obtain ⟨m, ⟨o, es, ep, ho, r⟩, _⟩ := id I.loc
  obtain ⟨sl, hL⟩ := u.any ho I.free fun z => (hch _ z).2.1 rfl
  exact I.step (ch := ch) hch (fun b o hL hb hc e n => u.keep b o e n (fun z => (List.mem_cons.mp (I.stkSub b z)).elim hL hb) hc) (fun b o _ _ hc e n => u.any e n hc) (fun b o hc e n => u.free b o e n hc) (fun b o hc e => u.there b o e hc) u.tups u.frzs u.tbls (fun m' hm => by
    obtain ⟨o', es', ep', ho', r'⟩ := hm
    rw [ho] at ho'; cases ho'
    exact ⟨_, es', ep', hL, r'⟩) hok hg
theorem Inv.turned {t' : Nat} {it : Addr} (I : Inv X pins σ H s) (k : ∀ b o, b ≠ it → s.heap.get? b = some o → h'.get? b = some o) (hn : H it = none) (hL : it ≠ X.env.locals)
    (h1 : it ∈ X.ex ∨ X.s₀.heap.objs.size ≤ it) (h2 : ∀ x c, X.env.cells.lookup x = some c → c ≠ it) (h3 : ∀ p ∈ X.pn ++ pins, p.1 ≠ it) : Inv X pins σ H { s with heap := h', toks := t' } := by
  have nit : ∀ b u, H b = some u → b ≠ it := fun b u e z => by rw [z, hn] at e; cases e
  refine I.step (g' := s.gens) (d' := s.drawn) (ch := [it]) (fun b hb => ?_) (fun b o _ _ hc e _ => k b o (fun z => hc (by simp [z])) e) (fun b o _ _ hc e _ => ⟨o.slots, k b o (fun z => hc (by simp [z])) e⟩) (fun _ _ _ _ n => n)
    (fun b o hc e => ⟨o, k b o (fun z => hc (by simp [z])) e⟩) (fun _ _ e => e) (fun _ _ _ e => e) (fun b ps e => ⟨#[], by rw [e]; simp⟩) (fun m hm => ?_) (fun b u e => ?_) I.bare
  · have e : b = it := by simpa using hb
    subst e
    exact ⟨h1, hL, h2, h3⟩
  · obtain ⟨o, es, ep, ho, r⟩ := hm
    exact ⟨o, es, ep, k _ o (Ne.symm hL) ho, r⟩
  · refine (I.hok b u e).stay (fun c v hc q => k c v ?_ q) (fun _ q => q) fun _ _ q => q
    rcases hc with z | z
    · rw [z]; exact nit b u e
    · exact nit c _ z
theorem Inv.tok (I : Inv X pins σ H s) (t : Nat) : Inv X pins σ H { s with toks := t } := I.un (h' := s.heap) (t' := t) Un.refl I.hok
theorem Inv.kept {t' : Nat} (I : Inv X pins σ H s) (k : ∀ b u, s.heap.get? b = some u → h'.get? b = some u) : Inv X pins σ H { s with heap := h', toks := t' } := I.un (Un.kept k) (I.hok.kept k)
theorem Inv.laid {a : Addr} {o : HO} {t' : Nat} (I : Inv X pins σ H s) (k : ∀ b u, s.heap.get? b = some u → h'.get? b = some u) (hp : s.heap.objs.size ≤ a) (new : ObjOk X.prog X.w (upd H a o) h' a o) :
    Inv X pins σ (upd H a o) { s with heap := h', toks := t' } := I.un (Un.laid k hp (I.hok.fresh hp)) (I.hok.laid k hp new)
theorem Inv.write {x e : Addr} {o : HO} {t' : Nat} (I : Inv X pins σ H s) (mu : Mut (H x)) (he : e = x ∨ H e = some (.own x)) (k : ∀ b u, b ≠ e → s.heap.get? b = some u → h'.get? b = some u) (heo : ∃ u, h'.get? e = some u)
    (new : ObjOk X.prog X.w (upd H x o) h' x o) : Inv X pins σ (upd H x o) { s with heap := h', toks := t' } := I.un (Un.write mu he k heo) (I.hok.write mu he k heo new)
theorem Inv.weak {σ' : List (Option V)} (I : Inv X pins σ H s) (hl : σ'.length = σ.length) (w : ∀ (i : Nat) v, σ'[i]? = some (some v) → σ[i]? = some (some v)) : Inv X pins σ' H s :=
  ⟨I.ok, I.os, I.bare, I.base, let ⟨m, hn, hl'⟩ := I.loc; ⟨m, hn, fun i x v e1 e2 e3 => hl' i x v e1 (w i v e2) e3⟩, I.cell, I.free, I.freeC, I.pin, I.hok, hl.trans I.len⟩
theorem Inv.pins_of {pins' : List (Addr × Obj)} (I : Inv X pins σ H s) (h : ∀ p ∈ pins', s.heap.get? p.1 = some p.2 ∧ H p.1 = none ∧ p.1 ≠ X.env.locals ∧ p.1 ∉ X.fs ∧ ∀ v, p.2.data ≠ .cell v) : Inv X pins' σ H s :=
  ⟨I.ok, I.os, I.bare, I.base, I.loc, I.cell, I.free, I.freeC, fun p hp => (List.mem_append.mp hp).elim (fun z => I.pin p (List.mem_append_left _ z)) (h p), I.hok, I.len⟩

theorem nodup_ix {N : List Str} (hN : N.Nodup) {i j : Nat} {x : Str} (a : N[i]? = some x) (b : N[j]? = some x) : i = j := by
  obtain ⟨h1, e1⟩ := List.getElem?_eq_some_iff.mp a
  obtain ⟨h2, e2⟩ := List.getElem?_eq_some_iff.mp b
  exact (List.getElem_inj hN).mp (e1.trans e2.symm)

theorem store_ok2 {M : Model} {A : Around} {E : Value → Shared → Prop} {i : Nat} {x : Str} {v : V} {u : Value} {Q : Unit → Shared → Prop} (I : Inv X pins σ H s) (hN : X.N.Nodup) (hi : X.N[i]? = some x) (hx : Loc X.env.scope x) (r : RelV v u)
    (h : ∀ s', Inv X pins (σ.set i (some v)) H s' → (∃ a, Heap.SameBut a s.heap s'.heap ∧ (a = X.env.locals ∨ X.env.cells.lookup x = some a)) → Q () s') (hf : X.fn x = true ∨ X.env.scope.names.lookup x = some .local := by first | exact .inl rfl | exact .inr rfl | assumption) : wpAny M A (storeName X.env x u) Q E s := by
  obtain ⟨m, hn, hl⟩ := id I.loc
  have hcls : (X.env.scope.kind == .class || (X.env.scope.kind == .module && X.env.locals != X.env.globals)) = false := by rw [I.ok.kind]; rfl
  have hiσ : i < σ.length := by rw [I.len]; exact (List.getElem?_eq_some_iff.mp hi).1
  have cne := I.cne
  have tracked : ∀ {a : Addr} {h' : Heap}, (∃ o, s.heap.get? a = some o ∧ H a = none) → Heap.SameBut a s.heap h' → HOk X.prog X.w H h' := fun {a h'} ha hs b ob e => by
    obtain ⟨_, _, hfree⟩ := ha
    refine (I.hok b ob e).stay (fun c w' hc q => (hs.2 c ?_).trans q) (fun _ q => q) fun _ _ q => q
    rintro rfl
    rcases hc with rfl | hc
    · rw [hfree] at e; cases e
    · rw [hfree] at hc; cases hc
  rcases hx with hk | hk
  · refine wpAny_storeName_local hk hn (fun h' hn' hs => ?_) hcls
    obtain ⟨oL, _, _, hoL, _⟩ := id hn
    refine h _ ⟨I.ok, I.os, I.bare, ⟨fun b o e n hb hx => ?_, fun b o e n hb hx => ?_, I.base.free, fun b o e hx => ?_, I.base.tups, I.base.frzs, I.base.tbls⟩, ⟨_, hn', fun j y v' e1 e2 e3 => ?_⟩, fun y c e => ?_, I.free, I.freeC, fun p hp => ?_, tracked ⟨oL, hoL, I.free⟩ hs, by simpa using I.len⟩ ⟨_, hs, .inl rfl⟩
    · exact (hs.2 b (Nat.ne_of_lt (Nat.lt_of_lt_of_le (Heap.lt_size e) I.ok.above))).trans (I.base.keep b o e n hb hx)
    · obtain ⟨sl, e1⟩ := I.base.slot b o e n hb hx
      exact ⟨sl, (hs.2 b (Nat.ne_of_lt (Nat.lt_of_lt_of_le (Heap.lt_size e) I.ok.above))).trans e1⟩
    · obtain ⟨o', e1⟩ := I.base.there b o e hx
      exact ⟨o', (hs.2 b (Nat.ne_of_lt (Nat.lt_of_lt_of_le (Heap.lt_size e) I.ok.above))).trans e1⟩
    · by_cases hj : j = i
      · subst hj
        rw [hi] at e1; cases e1
        rw [List.getElem?_set_self hiσ] at e2
        cases e2
        exact ⟨u, r, .inl ⟨hk, by simp⟩⟩
      · rw [List.getElem?_set_ne (Ne.symm hj)] at e2
        obtain ⟨u', r', q⟩ := hl j y v' e1 e2 e3
        refine ⟨u', r', ?_⟩
        rcases q with ⟨k, e⟩ | ⟨k, c, e, z⟩
        · refine .inl ⟨k, ?_⟩
          have : y ≠ x := fun e => hj (nodup_ix hN e1 (e ▸ hi))
          simp [this, e]
        · exact .inr ⟨k, c, e, z.sameBut hs (cne y c e)⟩
    · obtain ⟨w', z⟩ := I.cell y c e
      exact ⟨w', z.sameBut hs (cne y c e)⟩
    · obtain ⟨e, n, ne, nf, d⟩ := I.pin p hp
      exact ⟨(hs.2 p.1 ne).trans e, n, ne, nf, d⟩
  · have hfn : X.fn x = true := by
      rcases hf with z | z
      · exact z
      · rw [z] at hk; cases hk
    obtain ⟨c, hc⟩ := I.ok.has x (.inl hk)
    obtain ⟨w', z⟩ := I.cell x c hc
    refine wpAny_storeName_cell I.ok.kind hk hc z (fun h' hc' hs => ?_)
    obtain ⟨oc, hoc, hocd⟩ := id z
    refine h { s with heap := h' } ⟨I.ok, I.os, I.bare, ⟨fun b o e n hb hx => ?_, fun b o e n hb hx => ?_, I.base.free, fun b o e hx => ?_, I.base.tups, I.base.frzs, I.base.tbls⟩, ⟨m, hn.sameBut hs (Ne.symm (cne x c hc)), fun j y v' e1 e2 e3 => ?_⟩, fun y c' e => ?_, I.free, I.freeC, fun p hp => ?_, tracked ⟨oc, hoc, I.freeC x c hc⟩ hs, by simpa using I.len⟩ ⟨c, hs, .inr hc⟩
    · exact (hs.2 b (Nat.ne_of_lt (Nat.lt_of_lt_of_le (Heap.lt_size e) (I.ok.cab x c hfn hc)))).trans (I.base.keep b o e n hb hx)
    · obtain ⟨sl, e1⟩ := I.base.slot b o e n hb hx
      exact ⟨sl, (hs.2 b (Nat.ne_of_lt (Nat.lt_of_lt_of_le (Heap.lt_size e) (I.ok.cab x c hfn hc)))).trans e1⟩
    · obtain ⟨o', e1⟩ := I.base.there b o e hx
      exact ⟨o', (hs.2 b (Nat.ne_of_lt (Nat.lt_of_lt_of_le (Heap.lt_size e) (I.ok.cab x c hfn hc)))).trans e1⟩
    · by_cases hj : j = i
      · subst hj
        rw [hi] at e1; cases e1
        rw [List.getElem?_set_self hiσ] at e2
        cases e2
        exact ⟨u, r, .inr ⟨.inl hk, c, hc, hc'⟩⟩
      · rw [List.getElem?_set_ne (Ne.symm hj)] at e2
        obtain ⟨u', r', q⟩ := hl j y v' e1 e2 e3
        refine ⟨u', r', ?_⟩
        rcases q with q | ⟨k, c', e, z'⟩
        · exact .inl q
        · refine .inr ⟨k, c', e, z'.sameBut hs ?_⟩
          rintro rfl
          exact hj (nodup_ix hN e1 (I.ok.inj _ _ _ e hc ▸ hi))
    · by_cases hcc : c' = c
      · subst hcc; exact ⟨_, hc'⟩
      · obtain ⟨w2, z2⟩ := I.cell y c' e
        exact ⟨w2, z2.sameBut hs hcc⟩
    · obtain ⟨e, n, ne, nf, d⟩ := I.pin p hp
      refine ⟨(hs.2 p.1 ?_).trans e, n, ne, nf, d⟩
      intro q
      rw [q, hoc] at e
      have q' : oc = p.2 := Option.some.inj e
      exact d w' (by rw [← q']; exact hocd)
theorem store_ok {M : Model} {A : Around} {E : Value → Shared → Prop} {i : Nat} {x : Str} {v : V} {u : Value} {Q : Unit → Shared → Prop} (I : Inv X pins σ H s) (hN : X.N.Nodup) (hi : X.N[i]? = some x) (hx : Loc X.env.scope x) (r : RelV v u)
    (h : ∀ s', Inv X pins (σ.set i (some v)) H s' → Q () s') (hf : X.fn x = true ∨ X.env.scope.names.lookup x = some .local := by first | exact .inl rfl | exact .inr rfl | assumption) : wpAny M A (storeName X.env x u) Q E s :=
  store_ok2 I hN hi hx r (fun s' I' _ => h s' I') hf
theorem Inv.call' {s' : Shared} {ch : List Addr} (I : Inv X pins σ H s) (ho : s'.os = s.os) (u : Un (frs X.stack) ch H H' s.heap s'.heap) (hok : HOk X.prog X.w H' s'.heap) (hg : AllBare s'.gens)
    (hch : ∀ b ∈ ch, (b ∈ X.ex ∨ X.s₀.heap.objs.size ≤ b) ∧ b ≠ X.env.locals ∧ (∀ x c, X.env.cells.lookup x = some c → c ≠ b) ∧ ∀ p ∈ X.pn ++ pins, p.1 ≠ b) : Inv X pins σ H' s' := by
  obtain ⟨h', g', d', t', o'⟩ := s'
  have e : o' = s.os := ho
  subst e
  exact I.call (g' := g') (t' := t') (d' := d') u hok hg hch
end

/-! ### the judgements -/
abbrev XK := Value → Option Addr → Hp → Prop
abbrev St := List (Option V)
abbrev VK := V → Hp → Prop
abbrev TE := St → Hp → VK → Prop
abbrev TT := St → Hp → (Bool → Hp → Prop) → Prop
abbrev TA := St → Hp → (List V → Hp → Prop) → Prop
structure Ends where
  nx : St → Hp → Prop
  rt : VK
  bk : St → Hp → Prop := fun _ _ => False
  ct : St → Hp → Prop := fun _ _ => False
abbrev TS := Ends → St → Hp → Prop

def EP (X : Cx) (pins : List (Addr × Obj)) (σ : St) (Q : VK) (u : Value) (s' : Shared) : Prop := ∃ v H', Inv X pins σ H' s' ∧ RelV v u ∧ Q v H'
def TP (X : Cx) (pins : List (Addr × Obj)) (σ : St) (Q : Bool → Hp → Prop) (b : Bool) (s' : Shared) : Prop := ∃ H', Inv X pins σ H' s' ∧ Q b H'
def AP (X : Cx) (pins : List (Addr × Obj)) (σ : St) (Q : List V → Hp → Prop) (us : List Value) (s' : Shared) : Prop := ∃ vs H', Inv X pins σ H' s' ∧ Vals vs us ∧ Q vs H'
def SP (X : Cx) (pins : List (Addr × Obj)) (D : Ends) (f : Flow) (s' : Shared) : Prop :=
  match f with
  | .next => ∃ σ' H', Inv X pins σ' H' s' ∧ D.nx σ' H'
  | .brk => ∃ σ' H', Inv X pins σ' H' s' ∧ D.bk σ' H'
  | .cont => ∃ σ' H', Inv X pins σ' H' s' ∧ D.ct σ' H'
  | .ret u => ∃ v σ' H', Inv X pins σ' H' s' ∧ RelV v u ∧ D.rt v H'

def PE (X : Cx) (e : Expr) (t : TE) : Prop :=
  ∀ (pins : List (Addr × Obj)) (s : Shared) (σ : St) (H : Hp) (Q : VK), Inv X pins σ H s → t σ H Q → wpAny (model X.prog X.w) X.A (eval e X.env) (EP X pins σ Q) X.xe s
def PT (X : Cx) (e : Expr) (t : TT) : Prop :=
  ∀ (pins : List (Addr × Obj)) (s : Shared) (σ : St) (H : Hp) (Q : Bool → Hp → Prop), Inv X pins σ H s → t σ H Q → wpAny (model X.prog X.w) X.A (isTrue e X.env (eval e X.env)) (TP X pins σ Q) X.xe s
def PW (X : Cx) (e : Expr) (t : TT) : Prop :=
  ∀ (whole : Sem Value) (pins : List (Addr × Obj)) (s : Shared) (σ : St) (H : Hp) (Q : Bool → Hp → Prop), Inv X pins σ H s → t σ H Q → wpAny (model X.prog X.w) X.A (isTrue e X.env whole) (TP X pins σ Q) X.xe s
theorem PW.pt {X : Cx} {e : Expr} {t : TT} (h : PW X e t) : PT X e t := h _
def PA (X : Cx) (es : List Expr) (t : TA) : Prop :=
  ∀ (pos : Pos) (pins : List (Addr × Obj)) (s : Shared) (σ : St) (H : Hp) (Q : List V → Hp → Prop), Inv X pins σ H s → t σ H Q → wpAny (model X.prog X.w) X.A (spliced (backTo pos (starEach es X.env))) (AP X pins σ Q) X.xe s
def PS (X : Cx) (st : Stmt) (t : TS) : Prop :=
  ∀ (pins : List (Addr × Obj)) (s : Shared) (σ : St) (H : Hp) (D : Ends), Inv X pins σ H s → t D σ H → wpAny (model X.prog X.w) X.A (exec st X.env) (SP X pins D) X.xe s
def PSs (X : Cx) (st : List Stmt) (t : TS) : Prop :=
  ∀ (pins : List (Addr × Obj)) (s : Shared) (σ : St) (H : Hp) (D : Ends), Inv X pins σ H s → t D σ H → wpAny (model X.prog X.w) X.A (execs st X.env) (SP X pins D) X.xe s
theorem thn {α : Type} {t : Sem α} {Q Q' : α → Shared → Prop} {M : Model} {A : Around} {E : Value → Shared → Prop} {s : Shared} (h : wpAny M A t Q E s) (hQ : ∀ a s, Q a s → Q' a s) : wpAny M A t Q' E s := wpAny_mono h hQ fun _ _ x => x
end L2

namespace L2
open PySem PySem.Spec PyProof.Rows
section
variable {X : Cx}

/-! ### names and constants -/
def tVar (i : Nat) : TE := fun σ H Q => ∃ v, σ[i]? = some (some v) ∧ Q v H
def tC (v : V) : TE := fun _ H Q => Q v H
theorem pe_var {i : Nat} {x : Str} {pos : Pos} (hN : X.N[i]? = some x) (hv : Vis X.env.scope x) (hd : (x == ("__debug__" : Str)) = false := by decide) (hcd : (x == ("__classdict__" : Str)) = false := by decide) : PE X (.Name x pos) (tVar i) := by
  intro pins s σ H Q I h
  obtain ⟨v, e, h⟩ := h
  obtain ⟨m, hn, hl⟩ := I.loc
  obtain ⟨u, r, l⟩ := hl i x v hN e hv
  have fin : EP X pins σ Q u s := ⟨v, H, I, r, h⟩
  rcases l with ⟨hk, hm⟩ | ⟨hk, c, hc, hcell⟩
  · exact wpAny_Name (wpAny_loadName_local I.ok.kind hk hn hm fin) hd
  · rcases hk with hk | hk
    · exact wpAny_Name (wpAny_loadName_cell I.ok.kind hk hc hcell fin) hd
    · exact wpAny_Name (wpAny_loadName_free I.ok.kind hk hc hcell fin hcd) hd
theorem pe_int {i j pos} : PE X (.Constant (.int i) j pos) (tC (.int i)) := fun _ _ _ H _ I h => wpAny_Constant_int ⟨.int i, H, I.tok _, ⟨_, rfl⟩, h⟩
theorem pe_bl {b j pos} : PE X (.Constant (.bool b) j pos) (tC (.bl b)) := fun _ _ _ H _ I h => Constant_bool ⟨.bl b, H, I, rfl, h⟩
theorem pe_str {x j pos} : PE X (.Constant (.str x) j pos) (tC (.str x)) := fun _ _ _ H _ I h => Calls.Constant_str ⟨.str x, H, I.tok _, ⟨_, rfl⟩, h⟩

def Gl (X : Cx) (x : Str) : Prop := X.env.kindOf x = some .globalImplicit
theorem ld_glob {E : Value → Shared → Prop} {pins : List (Addr × Obj)} {s : Shared} {σ : St} {H : Hp} {x : Str} {u : Value} {pos : Pos} {Q : Value → Shared → Prop} (I : Inv X pins σ H s) (hg : Gl X x) (hm : X.mg x = some u) (h : Q u s)
    (hd : (x == ("__debug__" : Str)) = false := by decide) : wpAny (model X.prog X.w) X.A (eval (.Name x pos) X.env) Q E s :=
  Calls.Name_function_global I.ok.kind hg (Calls.loadGlobal_global (by rw [I.ok.glob]; exact I.mod.glob.keeps I.bk) hm h) hd
theorem ld_blt {E : Value → Shared → Prop} {pins : List (Addr × Obj)} {s : Shared} {σ : St} {H : Hp} {x : Str} {u : Value} {pos : Pos} {Q : Value → Shared → Prop} (I : Inv X pins σ H s) (hg : Gl X x) (hm : X.mg x = none) (hv : bootBuiltins x = some u) (h : Q u s)
    (hn : x ≠ "__name__" := by decide) (hd : (x == ("__debug__" : Str)) = false := by decide) : wpAny (model X.prog X.w) X.A (eval (.Name x pos) X.env) Q E s := by
  obtain ⟨mb, h1, h2⟩ := I.mod.blt
  exact Calls.Name_function_global I.ok.kind hg (Calls.loadGlobal_builtin (by rw [I.ok.glob]; exact I.mod.glob.keeps I.bk) hm (by rw [I.ok.blt]; exact h1.keeps I.bk) ((h2 x hn).trans hv) h) hd
theorem pe_bltn {x : Str} {v : V} {u : Value} {pos : Pos} (hg : Gl X x) (hm : X.mg x = none) (hv : bootBuiltins x = some u) (r : RelV v u) (hn : x ≠ "__name__" := by decide) (hd : (x == ("__debug__" : Str)) = false := by decide) : PE X (.Name x pos) (tC v) :=
  fun _ _ _ H _ I h => ld_blt I hg hm hv ⟨v, H, I, r, h⟩ hn hd

/-! ### arithmetic -/
variable {a b : Expr} {ta tb : TE} {pos : Pos}
/-! ### comparisons -/
def PC (X : Cx) (op : CmpOp) (a b : Expr) (t : TE) : Prop :=
  ∀ (pins : List (Addr × Obj)) (s : Shared) (σ : St) (H : Hp) (Q : VK), Inv X pins σ H s → t σ H Q →
    wpAny (model X.prog X.w) X.A (eval a X.env) (fun v s₁ => wpAny (model X.prog X.w) X.A (eval b X.env) (fun u s₂ => wpAny (model X.prog X.w) X.A (compareOp op v u) (EP X pins σ Q) X.xe s₂) X.xe s₁) X.xe s
theorem nobehind (b : Expr) {op : CmpOp} (h : op ≠ .In) (h2 : op ≠ .NotIn) : behindInMarks op b = false := by
  have e1 : (op == CmpOp.In) = false := by cases op <;> first | rfl | exact absurd rfl h
  have e2 : (op == CmpOp.NotIn) = false := by cases op <;> first | rfl | exact absurd rfl h2
  cases b <;> simp [behindInMarks, e1, e2]
def tIsN (ta : TE) : TE := fun σ H Q => ta σ H fun x H1 => Q (.bl (decide (x = .non))) H1
theorem RelV.none_iff {x : V} {v : Value} (r : RelV x v) : (v == Value.none) = decide (x = .non) := by
  cases x with
  | non => cases r; rfl
  | bl _ => cases r; rfl
  | int _ => obtain ⟨t, rfl⟩ := r; rfl
  | str _ => obtain ⟨t, rfl⟩ := r; rfl
  | byt _ => obtain ⟨t, rfl⟩ := r; rfl
  | flt _ => obtain ⟨t, rfl⟩ := r; rfl
  | ref _ => cases r; rfl
  | ty _ => cases r; rfl
theorem pc_isN {j pos'} (ha : PE X a ta) : PC X .Is a (.Constant .none j pos') (tIsN ta) := by
  intro pins s σ H Q I h
  refine thn (ha pins s σ H _ I h) fun v s1 ⟨x, H1, I1, r1, q1⟩ => ?_
  exact Constant_none (is_none_gen ⟨.bl _, H1, I1, by rw [r1.none_iff]; rfl, q1⟩)
def tB (t : TE) : TT := fun σ H Q => t σ H fun x H1 => ∃ c, x = .bl c ∧ Q c H1
theorem pe_cmp {op : CmpOp} {t : TE} (h : PC X op a b t) (h1 : behindInMarks op b = false := by first | exact nobehind _ (by decide) (by decide) | rfl) : PE X (.Compare a [op] [b] pos) t := fun pins s σ H Q I hw => wpAny_Compare1 (h pins s σ H Q I hw) h1
theorem pt_cmp {op : CmpOp} {t : TE} (h : PC X op a b t) (h1 : behindInMarks op b = false := by first | exact nobehind _ (by decide) (by decide) | rfl) : PT X (.Compare a [op] [b] pos) (tB t) := by
  intro pins s σ H Q I hw
  refine wpAny_isTrue_Compare1 (thn (h pins s σ H _ I hw) fun v s1 h1 => thn h1 fun u s2 h2 => thn h2 fun c s3 ⟨x, H1, I1, r1, q1⟩ => ?_) h1
  obtain ⟨d, rfl, q⟩ := q1
  cases r1
  exact wpAny_truthy_bool ⟨H1, I1, q⟩
theorem pt_val {e : Expr} {t : TE} (h : PE X e t) (he : ∀ whole, isTrue e X.env whole = (do let v ← whole; standAt e.pos; holding [v] (truthy v)) := by intro _; rfl) : PT X e (tB t) := by
  intro pins s σ H Q I hw
  refine isTrue_plain (thn (h pins s σ H _ I hw) fun v s1 ⟨x, H1, I1, r1, q1⟩ => ?_) (he _)
  obtain ⟨d, rfl, q⟩ := q1
  cases r1
  exact wpAny_truthy_bool ⟨H1, I1, q⟩

/-! ### and, or, not -/
variable {tA tB' : TT} {rest : List Expr}
def tAnd (t u : TT) : TT := fun σ H Q => t σ H fun c H1 => if c = true then u σ H1 Q else Q false H1
def tOr (t u : TT) : TT := fun σ H Q => t σ H fun c H1 => if c = true then Q true H1 else u σ H1 Q
def tNot (t : TT) : TT := fun σ H Q => t σ H fun c H1 => Q (!c) H1
theorem pw_and1 (ha : PT X a tA) : PW X (.BoolOp .And [a] pos) tA := by
  intro wh pins s σ H Q I h
  refine isTrue_and (thn (ha pins s σ H Q I h) fun c s1 e => ?_)
  cases c with
  | true => exact isTrue_and_nil e
  | false => exact e
theorem pw_or1 (ha : PT X a tA) : PW X (.BoolOp .Or [a] pos) tA := by
  intro wh pins s σ H Q I h
  refine isTrue_or (thn (ha pins s σ H Q I h) fun c s1 e => ?_)
  cases c with
  | false => exact isTrue_or_nil e
  | true => exact e
theorem pw_and (ha : PT X a tA) (hb : PW X (.BoolOp .And (b :: rest) pos) tB') : PW X (.BoolOp .And (a :: b :: rest) pos) (tAnd tA tB') := by
  intro wh pins s σ H Q I h
  refine isTrue_and (thn (ha pins s σ H _ I h) fun c s1 ⟨H1, I1, q1⟩ => ?_)
  cases c with
  | true => exact hb wh pins s1 σ H1 Q I1 q1
  | false => exact ⟨H1, I1, q1⟩
theorem pw_or (ha : PT X a tA) (hb : PW X (.BoolOp .Or (b :: rest) pos) tB') : PW X (.BoolOp .Or (a :: b :: rest) pos) (tOr tA tB') := by
  intro wh pins s σ H Q I h
  refine isTrue_or (thn (ha pins s σ H _ I h) fun c s1 ⟨H1, I1, q1⟩ => ?_)
  cases c with
  | true => exact ⟨H1, I1, q1⟩
  | false => exact hb wh pins s1 σ H1 Q I1 q1
theorem pt_not (ha : PT X a tA) : PT X (.UnaryOp .Not a pos) (tNot tA) := by
  intro pins s σ H Q I h
  exact isTrue_not (ha pins s σ H (fun c H1 => Q (!c) H1) I h)
def tAndV (ta tb : TE) : TE := fun σ H Q => ta σ H fun x H1 => ∃ c, x = .bl c ∧ if c = true then tb σ H1 Q else Q (.bl false) H1
def tOrV (ta tb : TE) : TE := fun σ H Q => ta σ H fun x H1 => ∃ c, x = .bl c ∧ if c = true then Q (.bl true) H1 else tb σ H1 Q
def tNotV (ta : TE) : TE := fun σ H Q => ta σ H fun x H1 => ∃ c, x = .bl c ∧ Q (.bl (!c)) H1
theorem pe_one {op} {t : TE} (h : PE X a t) : PE X (.BoolOp op [a] pos) t := fun pins s σ H Q I hw => BoolOp_one (h pins s σ H Q I hw)
theorem pe_and (ha : PE X a ta) (hb : PE X (.BoolOp .And (b :: rest) pos) tb) : PE X (.BoolOp .And (a :: b :: rest) pos) (tAndV ta tb) := by
  intro pins s σ H Q I h
  refine BoolOp_and (thn (ha pins s σ H _ I h) fun v s1 ⟨x, H1, I1, r1, q1⟩ => ?_)
  obtain ⟨c, rfl, q1⟩ := q1
  cases r1
  refine wpAny_truthy_bool ?_
  cases c with
  | true => exact hb pins s1 σ H1 Q I1 q1
  | false => exact ⟨.bl false, H1, I1, rfl, q1⟩
theorem pe_not (ha : PE X a ta) : PE X (.UnaryOp .Not a pos) (tNotV ta) := by
  intro pins s σ H Q I h
  refine UnaryOp_ (thn (ha pins s σ H _ I h) fun v s1 ⟨x, H1, I1, r1, q1⟩ => ?_)
  obtain ⟨c, rfl, q1⟩ := q1
  cases r1
  exact not_of (wpAny_truthy_bool ⟨.bl (!c), H1, I1, rfl, q1⟩)
def tIf (t : TT) (ta tb : TE) : TE := fun σ H Q => t σ H fun c H1 => if c = true then ta σ H1 Q else tb σ H1 Q
theorem pe_ifExp {c : Expr} (hc : PT X c tA) (ha : PE X a ta) (hb : PE X b tb) : PE X (.IfExp c a b pos) (tIf tA ta tb) := by
  intro pins s σ H Q I h
  refine wpAny_IfExp (thn (hc pins s σ H _ I h) fun d s1 ⟨H1, I1, q1⟩ => ?_)
  cases d with
  | true => exact ha pins s1 σ H1 Q I1 q1
  | false => exact hb pins s1 σ H1 Q I1 q1
end
end L2

namespace L2
open PySem PySem.Spec PyProof.Rows

/-! ### a list, a tuple that is read: tracked, frozen, or an object of the module -/
def SqL (K : PySem.W.Frag) (H : Hp) (a : Addr) (xs : List V) : Prop :=
  Rd H a (.lst xs) ∨
    ∃ (o : Obj) (its : Array Value) (n : Nat), K.lookup a = some o ∧ o.cls = .type "list" ∧ o.dict = none ∧ o.data = .seq its n ∧ its.size ≤ sizeLine ∧ Vals xs its.toList
def SqT (K : PySem.W.Frag) (H : Hp) (a : Addr) (xs : List V) : Prop :=
  Rd H a (.tup xs) ∨
    ∃ (o : Obj) (its : Array Value) (n : Nat), K.lookup a = some o ∧ o.cls = .type "tuple" ∧ o.data = .seq its n ∧ its.size ≤ sizeLine ∧ Vals xs its.toList
def absV : Value → Option V
  | .none => some .non
  | .bool b => some (.bl b)
  | .int i _ => some (.int i)
  | .str x _ => some (.str x)
  | .bytes b _ => some (.byt b)
  | .float b _ => some (.flt b)
  | .ref a => some (.ref a)
  | .type n => some (.ty n)
  | _ => none
theorem RelV.abs {x : V} {u : Value} (r : RelV x u) : absV u = some x := by
  cases x with
  | non => cases r; rfl
  | bl _ => cases r; rfl
  | int _ => obtain ⟨t, rfl⟩ := r; rfl
  | str _ => obtain ⟨t, rfl⟩ := r; rfl
  | byt _ => obtain ⟨t, rfl⟩ := r; rfl
  | flt _ => obtain ⟨t, rfl⟩ := r; rfl
  | ref _ => cases r; rfl
  | ty _ => cases r; rfl
theorem RelV.inj {x y : V} {u : Value} (r : RelV x u) (q : RelV y u) : x = y := Option.some.inj (r.abs.symm.trans q.abs)
theorem Vals.inj : ∀ {xs ys : List V} {us : List Value}, Vals xs us → Vals ys us → xs = ys
  | _, _, _, .nil, .nil => rfl
  | _, _, _, .cons r t, .cons r' t' => by rw [r.inj r', Vals.inj t t']
section
variable {X : Cx} {pins : List (Addr × Obj)} {σ : St} {H : Hp} {s : Shared} {a : Addr} {xs ys : List V}
theorem SqL.of {K : PySem.W.Frag} (h : H a = some (.lst xs)) : SqL K H a xs := .inl (.inl h)
theorem SqT.of {K : PySem.W.Frag} (h : H a = some (.tup xs)) : SqT K H a xs := .inl (.inl h)
theorem Inv.list (I : Inv X pins σ H s) (h : SqL X.K H a xs) : ∃ its : List Value, Vals xs its ∧ PlainL s.heap a its.toArray ∧ xs.length ≤ sizeLine := by
  rcases h with h | ⟨o, its, n, hk, hc, hd, hs, hz, r⟩
  · obtain ⟨z, its, n, r, e⟩ := h.ok I.hok
    exact ⟨its, r, ⟨_, n, e, rfl, rfl, rfl⟩, z⟩
  · refine ⟨its.toList, r, ⟨o, n, I.kIn a o hk, hc, hd, by simpa using hs⟩, ?_⟩
    have e := r.length
    simp only [Array.length_toList] at e
    omega
theorem Inv.tuple (I : Inv X pins σ H s) (h : SqT X.K H a xs) : ∃ its : List Value, Vals xs its ∧ IsTup s.heap a its.toArray ∧ xs.length ≤ sizeLine := by
  rcases h with h | ⟨o, its, n, hk, hc, hs, hz, r⟩
  · obtain ⟨z, its, r, p⟩ := h.ok I.hok
    exact ⟨its, r, p, z⟩
  · refine ⟨its.toList, r, ⟨o, I.kIn a o hk, hc, n, by simpa using hs⟩, ?_⟩
    have e := r.length
    simp only [Array.length_toList] at e
    omega
theorem Inv.list_inj (I : Inv X pins σ H s) (h : SqL X.K H a xs) (h' : SqL X.K H a ys) : xs = ys := by
  obtain ⟨its, r, ⟨o, n, e, _, _, d⟩, _⟩ := I.list h
  obtain ⟨its', r', ⟨o', n', e', _, _, d'⟩, _⟩ := I.list h'
  rw [e] at e'; cases e'
  rw [d] at d'
  injection d' with d1 _
  have : its = its' := by simpa using congrArg Array.toList d1
  subst this
  exact r.inj r'
end

/-! ### another wish about exceptions -/
abbrev Cx.wish (X : Cx) (E : Value → Shared → Prop) : Cx := { X with xe := E }
abbrev Cx.nox (X : Cx) : Cx := X.wish fun _ _ => False
theorem Cx.Ok.wish {X : Cx} (ok : X.Ok) (E : Value → Shared → Prop) : (X.wish E).Ok :=
  ⟨ok.mod, ok.kind, ok.glob, ok.blt, ok.above, ok.inj, ok.has, ok.cab, ok.hd, ok.frames, ok.stk, ok.exf, ok.bs, ok.bsz, ok.noex, ok.exfs, ok.funs, ok.frf⟩
theorem Cx.Ok.unwish {X : Cx} {E : Value → Shared → Prop} (ok : (X.wish E).Ok) : X.Ok :=
  ⟨ok.mod, ok.kind, ok.glob, ok.blt, ok.above, ok.inj, ok.has, ok.cab, ok.hd, ok.frames, ok.stk, ok.exf, ok.bs, ok.bsz, ok.noex, ok.exfs, ok.funs, ok.frf⟩
section
variable {X : Cx} {pins : List (Addr × Obj)} {σ : St} {H : Hp} {s : Shared} {E : Value → Shared → Prop}
theorem Inv.wish (I : Inv X pins σ H s) (E : Value → Shared → Prop) : Inv (X.wish E) pins σ H s := ⟨I.ok.wish E, I.os, I.bare, I.base, I.loc, I.cell, I.free, I.freeC, I.pin, I.hok, I.len⟩
theorem Inv.unwish (I : Inv (X.wish E) pins σ H s) : Inv X pins σ H s := ⟨I.ok.unwish, I.os, I.bare, I.base, I.loc, I.cell, I.free, I.freeC, I.pin, I.hok, I.len⟩
theorem SP.unwish {D : Ends} {f : Flow} {s' : Shared} (h : SP (X.wish E) pins D f s') : SP X pins D f s' := by
  cases f with
  | next => obtain ⟨σ', H', I, q⟩ := h; exact ⟨σ', H', I.unwish, q⟩
  | brk => obtain ⟨σ', H', I, q⟩ := h; exact ⟨σ', H', I.unwish, q⟩
  | cont => obtain ⟨σ', H', I, q⟩ := h; exact ⟨σ', H', I.unwish, q⟩
  | ret u => obtain ⟨v, σ', H', I, r, q⟩ := h; exact ⟨v, σ', H', I.unwish, r, q⟩
theorem PE.nox {e : Expr} {t : TE} (h : PE X.nox e t) : PE X e t := fun pins s σ H Q I hw =>
  wpAny_mono (h pins s σ H Q (I.wish _) hw) (fun _ _ ⟨v, H', I', r, q⟩ => ⟨v, H', I'.unwish, r, q⟩) fun _ _ z => False.elim z
theorem PT.nox {e : Expr} {t : TT} (h : PT X.nox e t) : PT X e t := fun pins s σ H Q I hw =>
  wpAny_mono (h pins s σ H Q (I.wish _) hw) (fun _ _ ⟨H', I', q⟩ => ⟨H', I'.unwish, q⟩) fun _ _ z => False.elim z
theorem PSs.nox {st : List Stmt} {t : TS} (h : PSs X.nox st t) : PSs X st t := fun pins s σ H D I hw =>
  wpAny_mono (h pins s σ H D (I.wish _) hw) (fun _ _ q => q.unwish) fun _ _ z => False.elim z
end

/-! ### blocks and small statements -/
section
variable {X : Cx} {st : Stmt} {rest : List Stmt} {t u : TS} {e : Expr} {te : TE} {pos : Pos}
def tNext : TS := fun D σ H => D.nx σ H
def tSeq (t u : TS) : TS := fun D σ H => t { D with nx := u D } σ H
theorem pss_nil : PSs X [] tNext := fun _ _ σ H _ I h => wpAny_execs_nil ⟨σ, H, I, h⟩
theorem pss_cons (h1 : PS X st t) (h2 : PSs X rest u) : PSs X (st :: rest) (tSeq t u) := by
  intro pins s σ H D I h
  refine wpAny_execs_cons (thn (h1 pins s σ H { D with nx := u D } I h) fun f s1 q => ?_)
  cases f with
  | next =>
    obtain ⟨σ', H', I', q⟩ := q
    exact h2 pins s1 σ' H' D I' q
  | ret v => exact q
  | brk => exact q
  | cont => exact q
theorem pss_one (h1 : PS X st t) : PSs X [st] t := by
  intro pins s σ H D I h
  refine wpAny_execs_cons (thn (h1 pins s σ H D I h) fun f s1 q => ?_)
  cases f with
  | next => exact wpAny_execs_nil q
  | ret v => exact q
  | brk => exact q
  | cont => exact q
theorem Inv.quiet {pins : List (Addr × Obj)} {σ : St} {H : Hp} {s : Shared} (I : Inv X pins σ H s) : interactive X.env = false := by simp [interactive, I.ok.kind]
def tDrop (te : TE) : TS := fun D σ H => te σ H fun _ H1 => D.nx σ H1
theorem ps_expr (he : PE X e te) (hs : swapsWith e none pos.line X.env = pure false := by rfl) : PS X (.Expr e pos) (tDrop te) := by
  intro pins s σ H D I h
  exact wpAny_Expr_any (thn (he pins s σ H _ I h) fun v s1 ⟨x, H1, I1, r1, q1⟩ => ⟨σ, H1, I1, q1⟩) I.quiet hs
def tRet (te : TE) : TS := fun D σ H => te σ H D.rt
theorem ps_ret (he : PE X e te) : PS X (.Return (some e) pos) (tRet te) := by
  intro pins s σ H D I h
  exact wpAny_Return_some (thn (he pins s σ H _ I h) fun v s1 ⟨x, H1, I1, r1, q1⟩ => ⟨x, σ, H1, I1, r1, q1⟩)
def tIfS (c : TT) (t u : TS) : TS := fun D σ H => c σ H fun b H1 => if b = true then t D σ H1 else u D σ H1
theorem ps_if {c : Expr} {a b : List Stmt} {tc : TT} (hc : PT X c tc) (ha : PSs X a t) (hb : PSs X b u) : PS X (.If c a b pos) (tIfS tc t u) := by
  intro pins s σ H D I h
  refine wpAny_If (thn (hc pins s σ H _ I h) fun d s1 ⟨H1, I1, q1⟩ => ?_)
  cases d with
  | true => exact ha pins s1 σ H1 D I1 q1
  | false => exact hb pins s1 σ H1 D I1 q1
end

/-! ### targets -/
abbrev TG := V → St → Hp → (St → Hp → Prop) → Prop
abbrev TGs := List V → St → Hp → (St → Hp → Prop) → Prop
def PG (X : Cx) (target : Expr) (t : TG) : Prop :=
  ∀ (pins : List (Addr × Obj)) (s : Shared) (σ : St) (H : Hp) (v : V) (u : Value) (Q : St → Hp → Prop), Inv X pins σ H s → RelV v u → t v σ H Q →
    wpAny (model X.prog X.w) X.A (assign target X.env u) (fun _ s' => ∃ σ' H', Inv X pins σ' H' s' ∧ Q σ' H') X.xe s
def PGs (X : Cx) (ts : List Expr) (t : TGs) : Prop :=
  ∀ (pins : List (Addr × Obj)) (s : Shared) (σ : St) (H : Hp) (vs : List V) (us : List Value) (Q : St → Hp → Prop), Inv X pins σ H s → Vals vs us → t vs σ H Q →
    wpAny (model X.prog X.w) X.A (assignInOrder ((assignEach ts X.env).map (·.2)) us) (fun _ s' => ∃ σ' H', Inv X pins σ' H' s' ∧ Q σ' H') X.xe s
section
variable {X : Cx} {pos : Pos}
def gName (i : Nat) : TG := fun v σ H Q => Q (σ.set i (some v)) H
theorem pg_name {i : Nat} {x : Str} (hN : X.N.Nodup) (hi : X.N[i]? = some x) (hx : Loc X.env.scope x) (hf : X.fn x = true ∨ X.env.scope.names.lookup x = some .local := by first | exact .inl rfl | exact .inr rfl | assumption) : PG X (.Name x pos) (gName i) := by
  intro pins s σ H v u Q I r h
  exact wpAny_assign_Name (store_ok I hN hi hx r (fun s' I' => ⟨_, H, I', h⟩) hf)
def gNil : TGs := fun vs σ H Q => vs = [] ∧ Q σ H
def gCons (t : TG) (u : TGs) : TGs := fun vs σ H Q => ∃ v r, vs = v :: r ∧ t v σ H fun σ' H' => u r σ' H' Q
theorem pgs_nil : PGs X [] gNil := by
  intro pins s σ H vs us Q I r h
  obtain ⟨e, h⟩ := h
  subst e
  cases r
  exact assignInOrder_nil ⟨σ, H, I, h⟩
theorem pgs_cons {e : Expr} {es : List Expr} {t : TG} {u : TGs} (h1 : PG X e t) (h2 : PGs X es u)
    (hs : (assignEach (e :: es) X.env).map (·.2) = assign e X.env :: (assignEach es X.env).map (·.2) := by rfl) : PGs X (e :: es) (gCons t u) := by
  intro pins s σ H vs us Q I r h
  obtain ⟨v, vr, e1, h⟩ := h
  subst e1
  cases r with
  | cons r rr =>
    rw [hs]
    refine assignInOrder_cons (thn (h1 pins s σ H _ _ _ I r h) fun _ s1 ⟨σ1, H1, I1, q1⟩ => ?_)
    exact h2 pins s1 σ1 H1 _ _ Q I1 rr q1
def gTup (K : PySem.W.Frag) (n : Nat) (t : TGs) : TG := fun v σ H Q => ∃ a xs, v = .ref a ∧ SqT K H a xs ∧ xs.length = n ∧ t xs σ H Q
theorem pg_tup {es : List Expr} {k : Nat} {t : TGs} {n : Nat} (hc : X.calm = true) (h : PGs X es t)
    (hn : (assignEach es X.env).length = n := by rfl) (hst : (assignEach es X.env).findIdx? (·.1) = none := by rfl) : PG X (.Tuple es k pos) (gTup X.K n t) := by
  intro pins s σ H v u Q I r hw
  obtain ⟨a, xs, e1, hq, hl, hw⟩ := hw
  subst e1
  cases r
  obtain ⟨its, rv, ht, hz⟩ := I.tuple hq
  refine assign_Tuple_tuple (I.ok.hd hc) ht (by simp [hn, ← hl, rv.length]) hst fun h' hx => ?_
  have I1 : Inv X pins σ H { s with heap := h' } := I.kept (t' := s.toks) fun b o e => hx b o (Nat.ne_of_lt (Heap.lt_size e)) e
  exact h pins _ σ H xs _ Q I1 (by simpa using rv) hw
def tAsg (te : TE) (g : TG) : TS := fun D σ H => te σ H fun x H1 => g x σ H1 D.nx
theorem ps_asg {tg e : Expr} {te : TE} {g : TG} (he : PE X e te) (hg : PG X tg g) (hs : swapsWithSole [tg] e pos.line X.env = pure false := by rfl) (hw : swappedStores [tg] e X.env = pure none := by rfl)
    (h1 : (assignEach [tg] X.env).map (·.2) = [assign tg X.env] := by rfl) : PS X (.Assign [tg] e pos) (tAsg te g) := by
  intro pins s σ H D I h
  refine wpAny_Assign_stores (thn (he pins s σ H _ I h) fun v s1 ⟨x, H1, I1, r1, q1⟩ => ?_) hs hw
  rw [h1]
  exact thn (hg pins s1 σ H1 x v _ I1 r1 q1) fun _ s2 q => q
theorem ps_set {i : Nat} {x : Str} {e : Expr} {te : TE} {pos' : Pos} (hN : X.N.Nodup) (hi : X.N[i]? = some x) (hx : Loc X.env.scope x) (he : PE X e te) (hs : swapsWith e (some (.Name x pos')) pos.line X.env = pure false := by rfl) (hf : X.fn x = true ∨ X.env.scope.names.lookup x = some .local := by first | exact .inl rfl | exact .inr rfl | assumption) :
    PS X (.Assign [.Name x pos'] e pos) (tAsg te (gName i)) := by
  intro pins s σ H D I h
  refine wpAny_Assign_Name (thn (he pins s σ H _ I h) fun v s1 ⟨y, H1, I1, r1, q1⟩ => ?_) hs
  exact store_ok I1 hN hi hx r1 (fun s2 I2 => ⟨_, H1, I2, q1⟩) hf
end

/-! ### while -/
section
variable {X : Cx} {pos : Pos}
end

/-! ### what a loop or a comprehension walks -/
structure It where
  go : Nat → Hp → Prop
  yld : Nat → Hp → V → Hp → Prop
  stop : Nat → Hp → Prop
def FpOk (X : Cx) (pins : List (Addr × Obj)) (H : Hp) (b : Addr) : Prop :=
  H b = none ∧ b ≠ X.env.locals ∧ b ∉ X.fs ∧ (b ∈ X.ex ∨ X.s₀.heap.objs.size ≤ b) ∧ (∀ x c, X.env.cells.lookup x = some c → c ≠ b) ∧ ∀ p ∈ X.pn ++ pins, p.1 ≠ b
theorem Inv.fpOk {X : Cx} {pins : List (Addr × Obj)} {σ : St} {H H' : Hp} {s : Shared} {b : Addr} (I : Inv X pins σ H s) (hb : s.heap.objs.size ≤ b) (hn : H' b = none) : FpOk X pins H' b := by
  refine ⟨hn, Nat.ne_of_gt (Nat.lt_of_lt_of_le I.lt hb), I.nofs hb, .inr (Nat.le_trans I.sz hb), fun x c e z => ?_, fun p hp z => ?_⟩
  · obtain ⟨v, q⟩ := I.cell x c e
    exact absurd (Nat.lt_of_lt_of_le q.lt (by rw [z]; exact hb)) (Nat.lt_irrefl _)
  · exact absurd (Nat.lt_of_lt_of_le (Heap.lt_size (I.pin p hp).1) (by rw [z]; exact hb)) (Nat.lt_irrefl _)
structure Turn (P : Program) (w : World) (K : PySem.W.Frag) (tg : Expr) (J : It) (fp : List Addr) (it : Addr) (tn : Nat → Heap → Prop) : Prop where
  mem : it ∈ fp
  obj : ∀ i h, tn i h → ∀ b ∈ fp, ∃ o, h.get? b = some o ∧ ∀ v, o.data ≠ .cell v
  keep : ∀ i h h', tn i h → (∀ b ∈ fp, ∀ o, h.get? b = some o → h'.get? b = some o) → tn i h'
  item : ∀ (X : Cx), X.prog = P → X.w = w → X.K = K → X.calm = true → ∀ (i : Nat) (pins : List (Addr × Obj)) (s : Shared) (σ : St) (H : Hp) (E : Value → Shared → Prop), Inv X pins σ H s → (∀ b ∈ fp, FpOk X pins H b) → tn i s.heap → J.go i H →
    wpAny (model P w) X.A (pyNext (.ref it)) (fun r s1 => ∃ u, r = some u ∧
      wpAny (model P w) X.A (letOwnedTupleGo tg (.ref it) u) (fun _ s2 => ∃ x H', Inv X pins σ H' s2 ∧ RelV x u ∧ J.yld i H x H' ∧ tn (i + 1) s2.heap ∧ ∀ b ∈ fp, H' b = none) E s1) E s
  done : ∀ (X : Cx), X.prog = P → X.w = w → X.K = K → X.calm = true → ∀ (i : Nat) (pins : List (Addr × Obj)) (s : Shared) (σ : St) (H : Hp) (E : Value → Shared → Prop), Inv X pins σ H s → (∀ b ∈ fp, FpOk X pins H b) → tn i s.heap → J.stop i H →
    wpAny (model P w) X.A (pyNext (.ref it)) (fun r s1 => r = none ∧ Inv X pins σ H s1) E s
  self : ∀ (A : Around) (i : Nat) (s : Shared) (Q : Value → Shared → Prop) (E : Value → Shared → Prop), tn i s.heap → Q (.ref it) s → wpAny (model P w) A (pyIter (.ref it)) Q E s
abbrev TI := St → Hp → (It → Hp → Prop) → Prop
def PIE (X : Cx) (pins : List (Addr × Obj)) (σ : St) (tg : Expr) (R : It → Hp → Prop) (itv : Value) (s2 : Shared) : Prop :=
  ∃ (it : Addr) (fp : List Addr) (tn : Nat → Heap → Prop) (J : It) (H' : Hp), itv = .ref it ∧ Inv X pins σ H' s2 ∧ Turn X.prog X.w X.K tg J fp it tn ∧ tn 0 s2.heap ∧ (∀ b ∈ fp, FpOk X pins H' b) ∧ R J H'
def PI (X : Cx) (tg iter : Expr) (wi : TI) : Prop :=
  ∀ (pins : List (Addr × Obj)) (s : Shared) (σ : St) (H : Hp) (R : It → Hp → Prop), Inv X pins σ H s → wi σ H R →
    wpAny (model X.prog X.w) X.A (eval iter X.env) (fun v s1 => wpAny (model X.prog X.w) X.A (pyIter v) (PIE X pins σ tg R) X.xe s1) X.xe s

theorem go_of {M : Model} {A : Around} {E : Value → Shared → Prop} {s : Shared} {tg : Expr} {it : Addr} {u : Value} {o : Obj} {n : String} {vs : Array Value} {Q : Unit → Shared → Prop} (ho : s.heap.get? it = some o) (hc : o.cls = .type n) (hd : o.data = .fields vs)
    (hn : ["enumerate", "zip", "dict_itemiterator", "dict_reverseitemiterator", "odict_iterator", "itertools.zip_longest", "itertools.pairwise"].contains n = false) (hQ : Q () s) : wpAny M A (letOwnedTupleGo tg (.ref it) u) Q E s := by
  unfold letOwnedTupleGo
  cases tg <;> first
    | exact wpAny_pure hQ
    | (cases u <;> first
        | exact wpAny_pure hQ
        | (refine wpAny_bind (wpAny_load ho ?_)
           rw [hc, hd]
           show wpAny M A (if (["enumerate", "zip", "dict_itemiterator", "dict_reverseitemiterator", "odict_iterator", "itertools.zip_longest", "itertools.pairwise"].contains n && vs[0]? == some (rawInt _)) = true then _ else _) Q E s
           rw [if_neg (by intro h; rw [hn, Bool.false_and] at h; cases h)]
           exact wpAny_pure hQ))

def Itl (K : PySem.W.Frag) (a : Addr) : It :=
  ⟨fun i H => ∃ xs x, SqL K H a xs ∧ xs[i]? = some x, fun i H x H' => H' = H ∧ ∀ xs, SqL K H a xs → xs[i]? = some x, fun i H => ∃ xs, SqL K H a xs ∧ xs.length ≤ i⟩
def Itt (K : PySem.W.Frag) (a : Addr) : It :=
  ⟨fun i H => ∃ xs x, SqT K H a xs ∧ xs[i]? = some x, fun i H x H' => H' = H ∧ ∀ xs, SqT K H a xs → xs[i]? = some x, fun i H => ∃ xs, SqT K H a xs ∧ xs.length ≤ i⟩
def Itr (lo : Int) (n : Nat) : It := ⟨fun i _ => i < n, fun i H x H' => H' = H ∧ x = .int (lo + i), fun i _ => n ≤ i⟩
theorem turn_list {P : Program} {w : World} {K : PySem.W.Frag} {tg : Expr} (a it : Addr) : Turn P w K tg (Itl K a) [it] it (fun i h => h.IsListIter it a i) where
  mem := by simp
  obj := fun i h st b hb => by
    have e : b = it := by simpa using hb
    subst e
    obtain ⟨o, e, c, d⟩ := st
    exact ⟨o, e, fun v z => by rw [d] at z; cases z⟩
  keep := fun i h h' st k => st.at fun o e => k it (by simp) o e
  item := by
    intro X hP hw hK hc i pins s σ H E I hf st hg
    subst hP hw hK
    obtain ⟨xs, x, hq, hx⟩ := hg
    obtain ⟨its, rv, p, hz⟩ := I.list hq
    obtain ⟨u, hu, ru⟩ := rv.get hx
    obtain ⟨f0, f1, f2, f3, f4, f5⟩ := hf it (by simp)
    refine wpAny_pyNext_list_item st p.isList (x := u) (by simpa using hu) fun h' st' sb => ?_
    have I1 : Inv X pins σ H { s with heap := h' } := I.turned (t' := s.toks) (fun b o hb e => (sb.2 b hb).trans e) f0 f1 f3 f4 f5
    obtain ⟨o, e, c, d⟩ := id st'
    exact ⟨u, rfl, go_of (s := { s with heap := h' }) e c d (by decide) ⟨x, H, I1, ru, ⟨rfl, fun ys hy => by rw [I.list_inj hy hq]; exact hx⟩, st', fun b hb => (hf b hb).1⟩⟩
  done := by
    intro X hP hw hK hc i pins s σ H E I hf st hg
    subst hP hw hK
    obtain ⟨xs, hq, hx⟩ := hg
    obtain ⟨its, rv, p, hz⟩ := I.list hq
    obtain ⟨f0, f1, f2, f3, f4, f5⟩ := hf it (by simp)
    have hl := rv.length
    exact wpAny_pyNext_list_end (I.ok.hd hc) st p.isList (by simp; omega) fun h' eb => ⟨rfl, I.turned (t' := s.toks) (fun b o hb e => eb b o hb e) f0 f1 f3 f4 f5⟩
  self := fun _ _ _ _ _ st h => wpAny_pyIter_listiter st h
theorem turn_range {P : Program} {w : World} {K : PySem.W.Frag} {tg : Expr} (it : Addr) (lo : Int) (n : Nat) : Turn P w K tg (Itr lo n) [it] it (fun i h => IsRangeIter h it (lo + (i : Nat) * 1) ((n : Int) - (i : Nat)) 1) where
  mem := by simp
  obj := fun i h st b hb => by
    have e : b = it := by simpa using hb
    subst e
    exact ⟨_, st, fun v z => by
      have z' : Data.fields _ = Data.cell v := z
      cases z'⟩
  keep := fun i h h' st k => k it (by simp) _ st
  item := by
    intro X hP hw hK hc i pins s σ H E I hf st hg
    subst hP hw hK
    obtain ⟨f0, f1, f2, f3, f4, f5⟩ := hf it (by simp)
    have W := Walks.range (prog := X.prog) (w := X.w) (I.ok.hd hc) it lo 1 n
    refine W.item i s _ _ hg st fun v h' tk hv st' kk => ?_
    obtain ⟨t, rfl⟩ := hv
    have I1 : Inv X pins σ H { s with heap := h', toks := tk } := I.turned (fun b o hb e => kk b o (by simpa using hb) e) f0 f1 f3 f4 f5
    refine ⟨_, rfl, go_of (s := { s with heap := h', toks := tk }) (n := "range_iterator") st' rfl rfl (by decide) ⟨.int (lo + i), H, I1, ⟨t, ?_⟩, ⟨rfl, rfl⟩, st', fun b hb => (hf b hb).1⟩⟩
    rw [Int.mul_one]
  done := by
    intro X hP hw hK hc i pins s σ H E I hf st hg
    subst hP hw hK
    obtain ⟨f0, f1, f2, f3, f4, f5⟩ := hf it (by simp)
    exact wpAny_pyNext_range_end (I.ok.hd hc) st (by have : n ≤ i := hg; omega) fun h' eb => ⟨rfl, I.turned (t' := s.toks) (fun b o hb e => eb b o hb e) f0 f1 f3 f4 f5⟩
  self := fun _ _ _ _ _ st h => wpAny_pyIter_rangeiter st h
end L2

namespace L2
open PySem PySem.Spec PyProof.Rows
section
variable {X : Cx} {tg : Expr}
def iList (K : PySem.W.Frag) (tl : TE) : TI := fun σ H R => tl σ H fun x H1 => ∃ a, x = .ref a ∧ (∃ xs, SqL K H1 a xs) ∧ R (Itl K a) H1
theorem pi_list {l : Expr} {tl : TE} (hl : PE X l tl) : PI X tg l (iList X.K tl) := by
  intro pins s σ H R I h
  refine thn (hl pins s σ H _ I h) fun v s1 ⟨x, H1, I1, r1, q1⟩ => ?_
  obtain ⟨a, e, ⟨xs, hq⟩, q⟩ := q1
  subst e
  cases r1
  obtain ⟨its, rv, p, hz⟩ := I1.list hq
  refine wpAny_pyIter_list p.isList ?_
  refine ⟨s1.heap.objs.size, [s1.heap.objs.size], _, _, H1, rfl, I1.kept (t' := s1.toks) fun b o e => Heap.get?_push_of_some _ e, turn_list a _, ⟨_, Heap.get?_push_size _ rfl, rfl, rfl⟩, fun b hb => ?_, q⟩
  have e : b = s1.heap.objs.size := by simpa using hb
  subst e
  exact I1.fpOk (Nat.le_refl _) (I1.hok.fresh (Nat.le_refl _))
theorem range_it {pins : List (Addr × Obj)} {σ : St} {H : Hp} {s : Shared} {R : It → Hp → Prop} {E : Value → Shared → Prop} {lo hi : Int} {t u v : Tok} {tk : Nat} (I : Inv X pins σ H s) (h1 : -(2 ^ 62) ≤ lo) (h2 : lo < 2 ^ 62) (h3 : -(2 ^ 62) ≤ hi) (h4 : hi < 2 ^ 62)
    (q : R (Itr lo (hi - lo).toNat) H) : wpAny (model X.prog X.w) X.A (pyIter (.ref s.heap.objs.size)) (PIE X pins σ tg R) E { s with heap := s.heap.push { cls := .type "range", data := .fields #[.int lo t, .int hi u, .int 1 v] }, toks := tk } := by
  refine wpAny_pyIter_range (IsRange.new ..) (small_one h1 h2 h3 h4) ?_
  have I1 : Inv X pins σ H { s with heap := s.heap.push { cls := .type "range", data := .fields #[.int lo t, .int hi u, .int 1 v] }, toks := tk } := I.kept fun b o e => Heap.get?_push_of_some _ e
  refine ⟨(s.heap.push { cls := .type "range", data := .fields #[.int lo t, .int hi u, .int 1 v] }).objs.size, [(s.heap.push { cls := .type "range", data := .fields #[.int lo t, .int hi u, .int 1 v] }).objs.size], _, _, H, rfl,
    I1.kept (t' := tk) fun b o e => Heap.get?_push_of_some _ e, turn_range _ lo (hi - lo).toNat, ?_, fun b hb => ?_, q⟩
  · have e1 : lo + ((0 : Nat) : Int) * 1 = lo := by simp
    have e2 : (((hi - lo).toNat : Nat) : Int) - ((0 : Nat) : Int) = Builtin.Range.rangeSize lo hi 1 := by rw [rangeSize_one]; split <;> omega
    show IsRangeIter _ _ (lo + ((0 : Nat) : Int) * 1) ((((hi - lo).toNat : Nat) : Int) - ((0 : Nat) : Int)) 1
    rw [e1, e2]
    exact Heap.get?_push_size _ rfl
  · have e : b = (s.heap.push { cls := .type "range", data := .fields #[.int lo t, .int hi u, .int 1 v] }).objs.size := by simpa using hb
    subst e
    exact I1.fpOk (Nat.le_refl _) (I1.hok.fresh (Nat.le_refl _))
def iRng1 (ta : TA) : TI := fun σ H R => ta σ H fun vs H1 => ∃ j : Int, vs = [.int j] ∧ -(2 ^ 62) ≤ j ∧ j < 2 ^ 62 ∧ R (Itr 0 j.toNat) H1
def iRng2 (ta : TA) : TI := fun σ H R => ta σ H fun vs H1 => ∃ i j : Int, vs = [.int i, .int j] ∧ (-(2 ^ 62) ≤ i ∧ i < 2 ^ 62 ∧ -(2 ^ 62) ≤ j ∧ j < 2 ^ 62) ∧ R (Itr i (j - i).toNat) H1
theorem pi_range1 {a : Expr} {ta : TA} {p pos : Pos} (hg : Gl X "range") (hm : X.mg "range" = none) (ha : PA X [a] ta) (hs : starEach [a] X.env = [(false, eval a X.env)] := by rfl) : PI X tg (.Call (.Name "range" p) [a] [] pos) (iRng1 ta) := by
  intro pins s σ H R I h
  refine Call_ (ld_blt I hg hm boot_range (PyProof.Rows.callWith_type1 (thn (ha pos pins s σ H _ I h) fun us s1 ⟨vs, H1, I1, r1, q1⟩ => ?_) hs rfl))
  obtain ⟨j, e, q1, q2, q⟩ := q1
  subst e
  cases r1 with
  | cons r rr =>
    cases rr
    obtain ⟨t, rfl⟩ := r
    exact call_range_1 (range_it I1 (by omega) (by omega) q1 q2 (by simpa using q))
/-! ### for -/
def tFor (wi : TI) (g : TG) (tb : TS) : TS := fun D σ H => wi σ H fun J H1 => ∃ W : Nat → Nat → St → Hp → Prop, (∃ m, W 0 m σ H1) ∧ ∀ i m σ H, W i m σ H →
  (J.stop i H ∧ D.nx σ H) ∨ (J.go i H ∧ ∃ N : St → Hp → Prop, (∀ σ' H', N σ' H' → ∃ m', m' < m ∧ W (i + 1) m' σ' H') ∧ ∀ x H', J.yld i H x H' → g x σ H' fun σ2 H2 => tb { D with nx := N, ct := N, bk := D.nx } σ2 H2)
def pinsAt (fp : List Addr) (h : Heap) : List (Addr × Obj) := fp.filterMap fun b => (h.get? b).map fun o => (b, o)
theorem mem_pinsAt {fp : List Addr} {h : Heap} {b : Addr} {o : Obj} (hb : b ∈ fp) (e : h.get? b = some o) : (b, o) ∈ pinsAt fp h := List.mem_filterMap.mpr ⟨b, hb, by rw [e]; rfl⟩
theorem of_pinsAt {fp : List Addr} {h : Heap} {p : Addr × Obj} (hp : p ∈ pinsAt fp h) : p.1 ∈ fp ∧ h.get? p.1 = some p.2 := by
  obtain ⟨b, hb, e⟩ := List.mem_filterMap.mp hp
  cases q : h.get? b with
  | none => rw [q] at e; cases e
  | some o =>
    rw [q] at e
    have e' : (b, o) = p := Option.some.inj e
    subst e'
    exact ⟨hb, q⟩
theorem Inv.pinned {pins : List (Addr × Obj)} {σ : St} {H : Hp} {s : Shared} {fp : List Addr} (I : Inv X pins σ H s) (hf : ∀ b ∈ fp, FpOk X pins H b) (ho : ∀ b ∈ fp, ∃ o, s.heap.get? b = some o ∧ ∀ v, o.data ≠ .cell v) : Inv X (pins ++ pinsAt fp s.heap) σ H s :=
  I.pins_of fun p hp => (List.mem_append.mp hp).elim (fun z => I.pin p (List.mem_append_right _ z)) fun z => by
    obtain ⟨hb, e⟩ := of_pinsAt z
    obtain ⟨f0, f1, f2, _⟩ := hf p.1 hb
    obtain ⟨o, e', d⟩ := ho p.1 hb
    rw [e] at e'; cases e'
    exact ⟨e, f0, f1, f2, d⟩
theorem Inv.unpinned {pins pl : List (Addr × Obj)} {σ : St} {H : Hp} {s : Shared} (I : Inv X (pins ++ pl) σ H s) : Inv X pins σ H s := I.pins_of fun p hp => I.pin p (List.mem_append_right _ (List.mem_append_left _ hp))
theorem ps_for {iter : Expr} {body : List Stmt} {wi : TI} {g : TG} {tb : TS} {pos : Pos} (hp : PassesOwn (model X.prog X.w) X.A X.env X.xe) (hc : X.calm = true) (hi : PI X tg iter wi) (hg : PG X tg g) (hb : PSs X body tb)
    (hs : ∀ x, foldedSetIterable iter X.env x = pure x := by intro _; rfl) : PS X (.For tg iter body [] pos) (tFor wi g tb) := by
  intro pins s σ H D I h
  refine wpAny_For (thn (hi pins s σ H _ I h) fun v s1 h1 => thn h1 fun itv s2 h2 => ?_) hs
  obtain ⟨it, fp, tn, J, H2, e, I2, T, st2, f2, W, ⟨m0, w0⟩, turn⟩ := h2
  subst e
  -- what stays true of the iterator's objects through the loop
  have stat : ∀ {H' : Hp}, (∀ b ∈ fp, H' b = none) → ∀ b ∈ fp, FpOk X pins H' b := fun hn b hb => ⟨hn b hb, (f2 b hb).2⟩
  refine codeAny_forLoop_any (fun n s' => ∃ i σ' H', Inv X pins σ' H' s' ∧ tn i s'.heap ∧ (∀ b ∈ fp, H' b = none) ∧ W i n σ' H') ?_ m0 ⟨0, σ, H2, I2, st2, fun b hb => (f2 b hb).1, w0⟩
  rintro n s3 ⟨i, σ3, H3, I3, st3, fr3, w3⟩
  rcases turn i n σ3 H3 w3 with ⟨stop, qn⟩ | ⟨go, N, hN, step⟩
  · refine wpAny_passesOwn hp (thn (T.done X rfl rfl rfl hc i pins s3 σ3 H3 X.xe I3 (stat fr3) st3 stop) fun r s4 ⟨hr, I4⟩ => ?_)
    subst hr
    exact wpAny_execs_nil ⟨σ3, H3, I4, qn⟩
  · refine wpAny_passesOwn hp (thn (T.item X rfl rfl rfl hc i pins s3 σ3 H3 X.xe I3 (stat fr3) st3 go) fun r s4 ⟨u, hr, h4⟩ => ?_)
    subst hr
    refine wpAny_passesOwn hp (thn h4 fun _ s5 ⟨x, H5, I5, r5, y5, st5, fr5⟩ => ?_)
    have I5' := I5.pinned (stat fr5) (T.obj _ _ st5)
    refine wpAny_passesOwn hp (thn (hg _ s5 σ3 H5 x u _ I5' r5 (step x H5 y5)) fun _ s6 ⟨σ6, H6, I6, q6⟩ => ?_)
    refine wpAny_passesOwn hp (thn (hb _ s6 σ6 H6 _ I6 q6) fun f s7 q7 => ?_)
    have again : ∀ {σ7 : St} {H7 : Hp}, Inv X (pins ++ pinsAt fp s5.heap) σ7 H7 s7 → N σ7 H7 → ∃ m, m < n ∧ ∃ i σ' H', Inv X pins σ' H' s7 ∧ tn i s7.heap ∧ (∀ b ∈ fp, H' b = none) ∧ W i m σ' H' := fun {σ7 H7} I7 n7 => by
      obtain ⟨m', hm, w7⟩ := hN σ7 H7 n7
      refine ⟨m', hm, i + 1, σ7, H7, I7.unpinned, T.keep _ _ _ st5 fun b hb o e => (I7.pin (b, o) (List.mem_append_right _ (List.mem_append_right _ (mem_pinsAt hb e)))).1, fun b hb => ?_, w7⟩
      obtain ⟨o, e, d⟩ := T.obj _ _ st5 b hb
      exact (I7.pin (b, o) (List.mem_append_right _ (List.mem_append_right _ (mem_pinsAt hb e)))).2.1
    cases f with
    | next => obtain ⟨σ7, H7, I7, n7⟩ := q7; exact again I7 n7
    | cont => obtain ⟨σ7, H7, I7, n7⟩ := q7; exact again I7 n7
    | brk => obtain ⟨σ7, H7, I7, q7⟩ := q7; exact ⟨σ7, H7, I7.unpinned, q7⟩
    | ret v => obtain ⟨x7, σ7, H7, I7, r7, q7⟩ := q7; exact ⟨x7, σ7, H7, I7.unpinned, r7, q7⟩
end

/-! ### the forms one uses -/
theorem for_list {K : PySem.W.Frag} {a : Addr} {xs : List V} {g : TG} {tb : TS} {D : Ends} {σ : St} {H : Hp} (Pv : Nat → St → Hp → Prop) (h0 : Pv 0 σ H) (hl : ∀ i σ H, i ≤ xs.length → Pv i σ H → SqL K H a xs)
    (hs : ∀ i x σ H, xs[i]? = some x → Pv i σ H → g x σ H fun σ2 H2 => tb { D with nx := Pv (i + 1), ct := Pv (i + 1), bk := D.nx } σ2 H2) (hd : ∀ σ H, Pv xs.length σ H → D.nx σ H) :
    ∃ W : Nat → Nat → St → Hp → Prop, (∃ m, W 0 m σ H) ∧ ∀ i m σ H, W i m σ H →
      ((Itl K a).stop i H ∧ D.nx σ H) ∨ ((Itl K a).go i H ∧ ∃ N : St → Hp → Prop, (∀ σ' H', N σ' H' → ∃ m', m' < m ∧ W (i + 1) m' σ' H') ∧ ∀ x H', (Itl K a).yld i H x H' → g x σ H' fun σ2 H2 => tb { D with nx := N, ct := N, bk := D.nx } σ2 H2) := by
  refine ⟨fun i m σ H => m = xs.length - i ∧ i ≤ xs.length ∧ Pv i σ H, ⟨xs.length, by simp, Nat.zero_le _, h0⟩, ?_⟩
  rintro i m σ H ⟨rfl, hi, p⟩
  have q := hl i σ H hi p
  by_cases hlt : i < xs.length
  · refine .inr ⟨⟨xs, xs[i], q, by simp [hlt]⟩, Pv (i + 1), fun σ' H' p' => ⟨xs.length - (i + 1), by omega, rfl, hlt, p'⟩, fun x H' y => ?_⟩
    obtain ⟨e, y⟩ := y
    subst e
    exact hs i x σ _ (y xs q) p
  · have e : i = xs.length := by omega
    subst e
    exact .inl ⟨⟨xs, q, Nat.le_refl _⟩, hd σ H p⟩
theorem for_range {lo : Int} {n : Nat} {g : TG} {tb : TS} {D : Ends} {σ : St} {H : Hp} (Pv : Nat → St → Hp → Prop) (h0 : Pv 0 σ H)
    (hs : ∀ i σ H, i < n → Pv i σ H → g (.int (lo + i)) σ H fun σ2 H2 => tb { D with nx := Pv (i + 1), ct := Pv (i + 1), bk := D.nx } σ2 H2) (hd : ∀ σ H, Pv n σ H → D.nx σ H) :
    ∃ W : Nat → Nat → St → Hp → Prop, (∃ m, W 0 m σ H) ∧ ∀ i m σ H, W i m σ H →
      ((Itr lo n).stop i H ∧ D.nx σ H) ∨ ((Itr lo n).go i H ∧ ∃ N : St → Hp → Prop, (∀ σ' H', N σ' H' → ∃ m', m' < m ∧ W (i + 1) m' σ' H') ∧ ∀ x H', (Itr lo n).yld i H x H' → g x σ H' fun σ2 H2 => tb { D with nx := N, ct := N, bk := D.nx } σ2 H2) := by
  refine ⟨fun i m σ H => m = n - i ∧ i ≤ n ∧ Pv i σ H, ⟨n, by simp, Nat.zero_le _, h0⟩, ?_⟩
  rintro i m σ H ⟨rfl, hi, p⟩
  by_cases hlt : i < n
  · refine .inr ⟨hlt, Pv (i + 1), fun σ' H' p' => ⟨n - (i + 1), by omega, rfl, hlt, p'⟩, fun x H' y => ?_⟩
    obtain ⟨e, y⟩ := y
    subst e y
    exact hs i σ _ hlt p
  · have e : i = n := by omega
    subst e
    exact .inl ⟨Nat.le_refl _, hd σ H p⟩
end L2

namespace L2
open PySem PySem.Spec PyProof.Rows

abbrev R2 := V → V → Hp → VK → Prop
def OpR (X : Cx) (f : Value → Value → Sem Value) (r : R2) : Prop :=
  ∀ (pins : List (Addr × Obj)) (s : Shared) (σ : St) (H : Hp) (x y : V) (v u : Value) (Q : VK), Inv X pins σ H s → RelV x v → RelV y u → r x y H Q →
    wpAny (model X.prog X.w) X.A (f v u) (EP X pins σ Q) X.xe s
def UnR (X : Cx) (f : Value → Sem Value) (r : V → Hp → VK → Prop) : Prop :=
  ∀ (pins : List (Addr × Obj)) (s : Shared) (σ : St) (H : Hp) (x : V) (v : Value) (Q : VK), Inv X pins σ H s → RelV x v → r x H Q →
    wpAny (model X.prog X.w) X.A (f v) (EP X pins σ Q) X.xe s
def CallR (X : Cx) (f : Value) (r : List V → Hp → VK → Prop) : Prop :=
  ∀ (pins : List (Addr × Obj)) (s : Shared) (σ : St) (H : Hp) (xs : List V) (us : List Value) (Q : VK), Inv X pins σ H s → Vals xs us → r xs H Q →
    wpAny (model X.prog X.w) X.A (call f us) (EP X pins σ Q) X.xe s
def TruR (X : Cx) (r : V → Hp → (Bool → Hp → Prop) → Prop) : Prop :=
  ∀ (pins : List (Addr × Obj)) (s : Shared) (σ : St) (H : Hp) (x : V) (v : Value) (Q : Bool → Hp → Prop), Inv X pins σ H s → RelV x v → r x H Q →
    wpAny (model X.prog X.w) X.A (truthy v) (TP X pins σ Q) X.xe s

def tOp (r : R2) (ta tb : TE) : TE := fun σ H Q => ta σ H fun x H1 => tb σ H1 fun y H2 => r x y H2 Q
def tUn (r : V → Hp → VK → Prop) (ta : TE) : TE := fun σ H Q => ta σ H fun x H1 => r x H1 Q
def rI (C : Int → Int → Prop) (g : Int → Int → V) : R2 := fun x y H Q => ∃ i j, x = .int i ∧ y = .int j ∧ C i j ∧ Q (g i j) H
def rI0 (g : Int → Int → V) : R2 := fun x y H Q => ∃ i j, x = .int i ∧ y = .int j ∧ Q (g i j) H
def rU (g : Int → V) : V → Hp → VK → Prop := fun x H Q => ∃ i, x = .int i ∧ Q (g i) H

section
variable {X : Cx} {a b c : Expr} {ta tb tc : TE} {pos : Pos}

theorem binT (ha : PE X a ta) (hb : PE X b tb) {pins : List (Addr × Obj)} {s : Shared} {σ : St} {H : Hp} {R : V → V → Hp → Prop} (I : Inv X pins σ H s)
    (h : ta σ H fun x H1 => tb σ H1 fun y H2 => R x y H2) {Q : Value → Shared → Prop} {f : Value → Value → Sem Value}
    (hf : ∀ v u s2 x y H2, Inv X pins σ H2 s2 → RelV x v → RelV y u → R x y H2 → wpAny (model X.prog X.w) X.A (f v u) Q X.xe s2) :
    wpAny (model X.prog X.w) X.A (eval a X.env) (fun v s₁ => wpAny (model X.prog X.w) X.A (eval b X.env) (fun u s₂ => wpAny (model X.prog X.w) X.A (f v u) Q X.xe s₂) X.xe s₁) X.xe s := by
  refine thn (ha pins s σ H _ I h) fun v s1 ⟨x, H1, I1, r1, q1⟩ => ?_
  refine thn (hb pins s1 σ H1 _ I1 q1) fun u s2 ⟨y, H2, I2, r2, q2⟩ => ?_
  exact hf v u s2 x y H2 I2 r1 r2 q2

theorem pe_op {op : Operator} {r : R2} (ho : OpR X (binaryOp op) r) (ha : PE X a ta) (hb : PE X b tb) : PE X (.BinOp a op b pos) (tOp r ta tb) := by
  intro pins s σ H Q I h
  exact wpAny_BinOp (binT ha hb I h fun v u s2 x y H2 I2 rx ry q => ho pins s2 σ H2 x y v u Q I2 rx ry q)
theorem pe_un {op : UnaryOp} {r : V → Hp → VK → Prop} (ho : UnR X (unaryOp op) r) (ha : PE X a ta) : PE X (.UnaryOp op a pos) (tUn r ta) := by
  intro pins s σ H Q I h
  exact UnaryOp_ (thn (ha pins s σ H _ I h) fun v s1 ⟨x, H1, I1, r1, q1⟩ => ho pins s1 σ H1 x v Q I1 r1 q1)
/-! ### ints -/
theorem opI {f : Value → Value → Sem Value} {C : Int → Int → Prop} {g : Int → Int → Int}
    (rule : ∀ (i j : Int) (t u : Tok) (s : Shared) (Q : Value → Shared → Prop) (E : Value → Shared → Prop), C i j → Q (.int (g i j) s.toks) { s with toks := s.toks + 1 } → wpAny (model X.prog X.w) X.A (f (.int i t) (.int j u)) Q E s) :
    OpR X f (rI C fun i j => .int (g i j)) := by
  intro pins s σ H x y v u Q I rx ry h
  obtain ⟨i, j, rfl, rfl, hc, q⟩ := h
  obtain ⟨t, rfl⟩ := rx
  obtain ⟨t', rfl⟩ := ry
  exact rule i j t t' s _ _ hc ⟨.int (g i j), H, I.tok _, ⟨_, rfl⟩, q⟩
theorem opI0 {f : Value → Value → Sem Value} {g : Int → Int → Int}
    (rule : ∀ (i j : Int) (t u : Tok) (s : Shared) (Q : Value → Shared → Prop) (E : Value → Shared → Prop), Q (.int (g i j) s.toks) { s with toks := s.toks + 1 } → wpAny (model X.prog X.w) X.A (f (.int i t) (.int j u)) Q E s) :
    OpR X f (rI0 fun i j => .int (g i j)) := by
  intro pins s σ H x y v u Q I rx ry h
  obtain ⟨i, j, rfl, rfl, q⟩ := h
  obtain ⟨t, rfl⟩ := rx
  obtain ⟨t', rfl⟩ := ry
  exact rule i j t t' s _ _ ⟨.int (g i j), H, I.tok _, ⟨_, rfl⟩, q⟩
theorem opB0 {f : Value → Value → Sem Value} {g : Int → Int → Bool}
    (rule : ∀ (i j : Int) (t u : Tok) (s : Shared) (Q : Value → Shared → Prop) (E : Value → Shared → Prop), Q (.bool (g i j)) s → wpAny (model X.prog X.w) X.A (f (.int i t) (.int j u)) Q E s) :
    OpR X f (rI0 fun i j => .bl (g i j)) := by
  intro pins s σ H x y v u Q I rx ry h
  obtain ⟨i, j, rfl, rfl, q⟩ := h
  obtain ⟨t, rfl⟩ := rx
  obtain ⟨t', rfl⟩ := ry
  exact rule i j t t' s _ _ ⟨.bl (g i j), H, I, rfl, q⟩

def CPow (i j : Int) : Prop := 0 ≤ j ∧ j ≤ 1000000 ∧ i.natAbs < 2 ^ 64
def CMul (i j : Int) : Prop := (-(2 ^ 64) < i ∧ i < 2 ^ 64) ∨ (-(2 ^ 64) < j ∧ j < 2 ^ 64)
theorem CMul.ok {i j : Int} (h : CMul i j) : IntMulOk i j := by
  rcases h with ⟨h1, h2⟩ | ⟨h1, h2⟩
  · exact .of_left (intBits_le_64 h1 h2)
  · exact .of_right (intBits_le_64 h1 h2)
theorem op_add : OpR X (binaryOp .Add) (rI0 fun i j => .int (i + j)) := opI0 fun _ _ _ _ _ _ _ q => add_int q
theorem op_sub : OpR X (binaryOp .Sub) (rI0 fun i j => .int (i - j)) := opI0 fun _ _ _ _ _ _ _ q => sub_int q
theorem op_mod : OpR X (binaryOp .Mod) (rI (fun _ j => 0 < j) fun i j => .int (i % j)) := opI fun i j _ _ _ _ _ hc q => by
  have h1 : (0 : Int) < j := hc
  exact mod_int' (by omega) (by rw [Int.fmod_eq_emod_of_nonneg i (by omega)]; exact q)
theorem op_pow : OpR X (binaryOp .Pow) (rI CPow fun i j => .int (i ^ j.toNat)) := opI fun _ _ _ _ _ _ _ hc q => pow_int_small hc.1 hc.2.1 hc.2.2 q
theorem unI {f : Value → Sem Value} {g : Int → Int}
    (rule : ∀ (i : Int) (t : Tok) (s : Shared) (Q : Value → Shared → Prop) (E : Value → Shared → Prop), Q (.int (g i) s.toks) { s with toks := s.toks + 1 } → wpAny (model X.prog X.w) X.A (f (.int i t)) Q E s) :
    UnR X f (rU fun i => .int (g i)) := by
  intro pins s σ H x v Q I rx h
  obtain ⟨i, rfl, q⟩ := h
  obtain ⟨t, rfl⟩ := rx
  exact rule i t s _ _ ⟨.int (g i), H, I.tok _, ⟨_, rfl⟩, q⟩
theorem un_neg : UnR X (unaryOp .USub) (rU fun i => .int (-i)) := unI fun _ _ _ _ _ q => neg_int q
/-! ### bools among ints: n += (a < b) -/
end

/-! ### comparisons -/
def scal : V → V → Bool
  | .non, .non => true | .non, .int _ => true | .int _, .non => true | .non, .bl _ => true | .bl _, .non => true | .non, .str _ => true | .str _, .non => true
  | .int _, .int _ => true | .bl _, .bl _ => true | .str _, .str _ => true | .byt _, .byt _ => true
  | .int _, .str _ => true | .str _, .int _ => true | .bl _, .str _ => true | .str _, .bl _ => true
  | _, _ => false
def rEq : R2 := fun x y H Q => scal x y = true ∧ Q (.bl (decide (x = y))) H
theorem dec_int {i j : Int} : decide (V.int i = V.int j) = (i == j) := by
  rw [Bool.eq_iff_iff]
  simp
theorem dec_bl {i j : Bool} : decide (V.bl i = V.bl j) = (i == j) := by
  rw [Bool.eq_iff_iff]
  simp
theorem dec_str {i j : Str} : decide (V.str i = V.str j) = (i == j) := by
  rw [Bool.eq_iff_iff]
  simp
theorem dec_byt {i j : Array UInt8} : decide (V.byt i = V.byt j) = (i.toList == j.toList) := by
  rw [Bool.eq_iff_iff]
  cases i
  cases j
  simp

section
variable {X : Cx} {a b c : Expr} {ta tb tc : TE} {pos : Pos}
theorem fin_bl {pins : List (Addr × Obj)} {σ : St} {H : Hp} {s : Shared} {Q : VK} {k k' : Bool} (I : Inv X pins σ H s) (q : Q (.bl k) H) (e : k = k') : EP X pins σ Q (.bool k') s := by
  subst e
  exact ⟨.bl k, H, I, rfl, q⟩
theorem op_eq : OpR X (compareOp .Eq) rEq := by
  intro pins s σ H x y v u Q I rx ry h
  obtain ⟨hs, q⟩ := h
  cases x with
  | non =>
    cases rx
    cases y with
    | non => cases ry; exact PySem.EqNone.eq_none_none (fin_bl I q (by simp))
    | bl j => cases ry; exact PySem.EqNone.eq_none_bool (fin_bl I q (by simp))
    | int j => obtain ⟨t', rfl⟩ := ry; exact PySem.EqNone.eq_none_int (fin_bl I q (by simp))
    | str j => obtain ⟨t', rfl⟩ := ry; exact PySem.EqNone.eq_none_str (fin_bl I q (by simp))
    | _ => exact absurd (show false = true from hs) Bool.false_ne_true
  | bl i =>
    cases rx
    cases y with
    | non => cases ry; exact PySem.EqNone.eq_bool_none (fin_bl I q (by simp))
    | bl j => cases ry; exact eq_bool (fin_bl I q dec_bl)
    | str j => obtain ⟨t', rfl⟩ := ry; exact PySem.EqMixed.eq_bool_str (fin_bl I q (by simp))
    | _ => exact absurd (show false = true from hs) Bool.false_ne_true
  | int i =>
    obtain ⟨t, rfl⟩ := rx
    cases y with
    | non => cases ry; exact PySem.EqNone.eq_int_none (fin_bl I q (by simp))
    | int j => obtain ⟨t', rfl⟩ := ry; exact eq_int (fin_bl I q dec_int)
    | str j => obtain ⟨t', rfl⟩ := ry; exact PySem.EqMixed.eq_int_str (fin_bl I q (by simp))
    | _ => exact absurd (show false = true from hs) Bool.false_ne_true
  | str i =>
    obtain ⟨t, rfl⟩ := rx
    cases y with
    | non => cases ry; exact PySem.EqNone.eq_str_none (fin_bl I q (by simp))
    | bl j => cases ry; exact PySem.EqMixed.eq_str_bool (fin_bl I q (by simp))
    | int j => obtain ⟨t', rfl⟩ := ry; exact PySem.EqMixed.eq_str_int (fin_bl I q (by simp))
    | str j => obtain ⟨t', rfl⟩ := ry; exact eq_str (fin_bl I q dec_str)
    | _ => exact absurd (show false = true from hs) Bool.false_ne_true
  | byt i =>
    obtain ⟨t, rfl⟩ := rx
    cases y with
    | byt j => obtain ⟨t', rfl⟩ := ry; exact PySem.W.eq_bytes (fin_bl I q dec_byt)
    | _ => exact absurd (show false = true from hs) Bool.false_ne_true
  | _ => cases y <;> exact absurd (show false = true from hs) Bool.false_ne_true
theorem op_lt : OpR X (compareOp .Lt) (rI0 fun i j => .bl (decide (i < j))) := opB0 fun _ _ _ _ _ _ _ q => lt_int q
theorem op_gt : OpR X (compareOp .Gt) (rI0 fun i j => .bl (decide (j < i))) := opB0 fun _ _ _ _ _ _ _ q => gt_int q
theorem op_ge : OpR X (compareOp .GtE) (rI0 fun i j => .bl (decide (j ≤ i))) := opB0 fun _ _ _ _ _ _ _ q => ge_int q
theorem OpR.or {f : Value → Value → Sem Value} {r r' : R2} (h : OpR X f r) (h' : OpR X f r') : OpR X f (fun x y H Q => r x y H Q ∨ r' x y H Q) := by
  intro pins s σ H x y v u Q I rx ry q
  rcases q with q | q
  · exact h pins s σ H x y v u Q I rx ry q
  · exact h' pins s σ H x y v u Q I rx ry q

theorem nomark (b : Expr) {op : CmpOp} (h : op ≠ .In := by decide) (h2 : op ≠ .NotIn := by decide) : behindInMarks op b = false := by
  have e1 : (op == CmpOp.In) = false := by cases op <;> first | rfl | exact absurd rfl h
  have e2 : (op == CmpOp.NotIn) = false := by cases op <;> first | rfl | exact absurd rfl h2
  cases b <;> simp [behindInMarks, e1, e2]
theorem pe_cmpR {op : CmpOp} {r : R2} (ho : OpR X (compareOp op) r) (ha : PE X a ta) (hb : PE X b tb) (hm : behindInMarks op b = false) : PE X (.Compare a [op] [b] pos) (tOp r ta tb) := by
  intro pins s σ H Q I h
  exact wpAny_Compare1 (binT ha hb I h fun v u s2 x y H2 I2 rx ry q => ho pins s2 σ H2 x y v u Q I2 rx ry q) hm
def tTest (t : TE) : TT := fun σ H Q => t σ H fun x H' => ∃ k, x = .bl k ∧ Q k H'
theorem pt_cmpR {op : CmpOp} {r : R2} (ho : OpR X (compareOp op) r) (ha : PE X a ta) (hb : PE X b tb) (hm : behindInMarks op b = false) : PT X (.Compare a [op] [b] pos) (tTest (tOp r ta tb)) := by
  intro pins s σ H Q I h
  refine wpAny_isTrue_Compare1 (thn (ha pins s σ H _ I h) fun v s1 ⟨x, H1, I1, r1, q1⟩ => thn (hb pins s1 σ H1 _ I1 q1) fun u s2 ⟨y, H2, I2, r2, q2⟩ =>
    thn (ho pins s2 σ H2 x y v u _ I2 r1 r2 q2) fun c s3 ⟨z, H3, I3, r3, k, e, q3⟩ => ?_) hm
  subst e
  cases r3
  exact wpAny_truthy_bool ⟨H3, I3, q3⟩
/-! ### truth -/
def TruV (K : PySem.W.Frag) (x : V) (H : Hp) (k : Bool) : Prop :=
  match x with
  | .non => k = false
  | .bl b => k = b
  | .int i => k = (i != 0)
  | .str y => y.length ≤ sizeLine ∧ k = ((y.length : Int) != 0)
  | .byt y => y.size ≤ sizeLine ∧ k = ((y.size : Int) != 0)
  | .ref p => (∃ xs, SqL K H p xs ∧ k = !xs.isEmpty) ∨ (∃ xs, SqT K H p xs ∧ k = !xs.isEmpty) ∨ ∃ kvs, H p = some (.dK kvs) ∧ k = !kvs.isEmpty
  | _ => False
theorem isEmpty_kv {κ : Type} {kvs : List (κ × V)} {vs : List (κ × Value)} (r : KV kvs vs) : (!vs.isEmpty) = !kvs.isEmpty := by
  cases r <;> rfl
theorem isEmpty_of {xs : List V} {its : List Value} (r : Vals xs its) : (!its.toArray.isEmpty) = !xs.isEmpty := by
  cases r <;> simp
theorem line63 : (sizeLine : Nat) < 2 ^ 63 := by rw [sizeLine_eq]; decide
theorem tru_ok : TruR X (fun x H Q => ∃ k, TruV X.K x H k ∧ Q k H) := by
  intro pins s σ H x v Q I rx h
  obtain ⟨k, e, q⟩ := h
  have hl := line63
  have hs : sizeLine = 16777216 := sizeLine_eq
  cases x with
  | non =>
    cases rx
    have e' : k = false := e
    subst e'
    exact truthy_none ⟨H, I, q⟩
  | bl b =>
    cases rx
    have e' : k = b := e
    subst e'
    exact wpAny_truthy_bool ⟨H, I, q⟩
  | int i =>
    obtain ⟨t, rfl⟩ := rx
    have e' : k = (i != 0) := e
    subst e'
    exact PySem.P.truthy_int ⟨H, I, q⟩
  | str y =>
    obtain ⟨t, rfl⟩ := rx
    obtain ⟨hy, e'⟩ : y.length ≤ sizeLine ∧ k = ((y.length : Int) != 0) := e
    subst e'
    exact PySem.P.truthy_str (by omega) ⟨H, I.tok _, q⟩
  | byt y =>
    obtain ⟨t, rfl⟩ := rx
    obtain ⟨hy, e'⟩ : y.size ≤ sizeLine ∧ k = ((y.size : Int) != 0) := e
    subst e'
    exact PySem.W.truthy_bytes (by omega) ⟨H, I.tok _, q⟩
  | ref p =>
    cases rx
    have e' : (∃ xs, SqL X.K H p xs ∧ k = !xs.isEmpty) ∨ (∃ xs, SqT X.K H p xs ∧ k = !xs.isEmpty) ∨ ∃ kvs, H p = some (.dK kvs) ∧ k = !kvs.isEmpty := e
    rcases e' with ⟨xs, hx, e'⟩ | ⟨xs, hx, e'⟩ | ⟨kvs, hx, e'⟩
    · subst e'
      obtain ⟨its, r, pl, hz⟩ := I.list hx
      have hlen := r.length
      exact wpAny_truthy_list pl.isList (by simp only [List.size_toArray]; omega) ⟨H, I.tok _, by rw [isEmpty_of r]; exact q⟩
    · subst e'
      obtain ⟨its, r, pl, hz⟩ := I.tuple hx
      have hlen := r.length
      exact truthy_tuple pl (by simp only [List.size_toArray]; omega) ⟨H, I.tok _, by rw [isEmpty_of r]; exact q⟩
    · subst e'
      obtain ⟨hz, hS, vs, r, m⟩ : kvs.length ≤ sizeLine ∧ (p == sysModules) = false ∧ ∃ vs, KV kvs vs ∧ s.heap.DictOf (mixKind X.prog X.w) p vs := I.hok p _ hx
      have hlen : kvs.length = vs.length := Paired.length r
      exact wpAny_truthy_dict hS m (by omega) ⟨H, I.tok _, by rw [isEmpty_kv r]; exact q⟩
  | _ => exact (show False from e).elim
theorem pt_truth (ha : PE X a ta) (he : ∀ whole, isTrue a X.env whole = (do let v ← whole; standAt a.pos; holding [v] (truthy v))) :
    PT X a (fun σ H Q => ta σ H fun x H' => ∃ k, TruV X.K x H' k ∧ Q k H') := by
  intro pins s σ H Q I h
  exact isTrue_plain (thn (ha pins s σ H _ I h) fun v s1 ⟨x, H1, I1, r1, q1⟩ => tru_ok pins s1 σ H1 x v Q I1 r1 q1) (he _)

/-! ### strs and bytes -/
/-! ### scalar builtins, by CallR -/
theorem vals1 {x : V} {us : List Value} (r : Vals [x] us) : ∃ u, us = [u] ∧ RelV x u := by
  cases r with
  | cons r1 r2 => cases r2; exact ⟨_, rfl, r1⟩
theorem vals2 {x y : V} {us : List Value} (r : Vals [x, y] us) : ∃ u w', us = [u, w'] ∧ RelV x u ∧ RelV y w' := by
  cases r with
  | cons r1 r2 =>
    cases r2 with
    | cons r3 r4 => cases r4; exact ⟨_, _, rfl, r1, r3⟩
theorem call_abs : CallR X (.builtin "abs") (fun xs H Q => ∃ i, xs = [.int i] ∧ Q (.int (if i < 0 then -i else i)) H) := by
  intro pins s σ H xs us Q I r h
  obtain ⟨i, rfl, q⟩ := h
  obtain ⟨u, rfl, t, rfl⟩ := vals1 r
  exact call_abs_int fun u tk => ⟨.int (if i < 0 then -i else i), H, I.tok _, ⟨_, rfl⟩, q⟩
end
end L2

namespace L2
open PySem PySem.Spec PyProof.Rows

/-! ### an instance, its attributes a map -/
structure ObjM (h : Heap) (x dx C : Addr) (mA : Str → Option Value) : Prop where
  obj : h.get? x = some (PySem.W.instObj C dx)
  ns : h.Ns1 dx mA
  ne : dx ≠ x

theorem lookIn_ns {h : Heap} {dx : Addr} {mA : Str → Option Value} (n : h.Ns1 dx mA) : ∃ od, h.get? dx = some od ∧ ∀ name, PySem.W.lookIn name od = some (mA name) := by
  obtain ⟨o, es, ep, ho, hd, hk, _, hm⟩ := n
  refine ⟨o, ho, fun name => ?_⟩
  have e := hm name
  unfold nsFind findBy at e
  rw [← Array.find?_toList] at e
  unfold PySem.W.lookIn
  rw [hd]
  dsimp only
  split
  · rename_i y q
    rw [q] at e
    exact congrArg some e
  · rename_i q
    rw [q] at e
    have a : es.toList.any (·.refKey) = false := by
      rw [List.any_eq_false]
      intro y hy
      obtain ⟨z, t, hkey⟩ := hk y (Array.mem_toList_iff.mp hy)
      simp [DictEntry.refKey, hkey]
    have a' : ¬ es.toList.any (·.refKey) = true := by rw [a]; exact Bool.false_ne_true
    rw [if_neg a']
    exact congrArg some e

theorem ObjM.look {h : Heap} {x dx C : Addr} {mA : Str → Option Value} (I : ObjM h x dx C mA) : ∃ od, PySem.W.InstAt h x (PySem.W.instObj C dx) C (some od) ∧ ∀ name, PySem.W.lookIn name od = some (mA name) :=
  let ⟨od, ho, hl⟩ := lookIn_ns I.ns
  ⟨od, ⟨I.obj, rfl, rfl, ho⟩, hl⟩

section
variable {prog : Program} {w : World} {A : Around} {E : Value → Shared → Prop} {s : Shared} {K : PySem.W.Frag} {x dx C f : Addr} {mA : Str → Option Value} {name : Str} {v : Value}

theorem get_map {expr : Bool} {Q : Value → Shared → Prop} (X : K.In s.heap) (I : ObjM s.heap x dx C mA) (hg : PySem.W.plainGet K C name = true) (hh : PySem.W.hasDictIn K C = true)
    (ha : PySem.W.findIn K (.ref C) name = some none) (hv : mA name = some v) (hv' : PySem.W.handedIn v = true) (h : Q v { s with toks := s.toks + 1 }) :
    wpAny (model prog w) A (getAttr (.ref x) name expr) Q E s := by
  obtain ⟨od, J, hl⟩ := I.look
  exact PySem.W.get_value X J (PySem.W.plainGet_of hg).1 (PySem.W.findObj_own hh ha rfl (by rw [hl, hv])) hv' h

theorem get_meth {pl : Sem Bool} {Q : Value × List Value → Shared → Prop} (X : K.In s.heap) (I : ObjM s.heap x dx C mA) (hg : PySem.W.plainGet K C name = true)
    (hf : PySem.W.findIn K (.ref C) name = some (some (.ref f))) (ht : PySem.W.isFn K (.ref f) = true) (hv : mA name = none) (h : Q (.ref f, [.ref x]) s) :
    wpAny (model prog w) A (getMethod (.ref x) name pl) Q E s := by
  obtain ⟨od, J, hl⟩ := I.look
  exact PySem.W.method_fn X J (PySem.W.plainGet_of hg).1 (PySem.W.plainGet_of hg).2 hf (beq_iff_eq.mp ht) (by show (PySem.W.lookIn name od).map (·.isSome) = some false; rw [hl, hv]; rfl) h

theorem set_map {ns : List Str} {Q : Unit → Shared → Prop} (X : K.In s.heap) (I : ObjM s.heap x dx C mA)
    (hs : PySem.W.findIn K (.ref C) "__setattr__" = some (some (.builtin "object.__setattr__"))) (hp : PySem.W.plainOver K C = true) (ht : PySem.W.takerIn K C name = some none) (hh : PySem.W.hasDictIn K C = true)
    (hw : PySem.Within mA ns) (hsz : ns.length ≤ sizeLine)
    (h : ∀ h', ObjM h' x dx C (fun y => if y = name then some v else mA y) → Heap.SameBut dx s.heap h' → Q () { s with heap := h', toks := s.toks + 2 }) :
    wpAny (model prog w) A (setAttr (.ref x) name v) Q E s := by
  obtain ⟨od, J, hl⟩ := I.look
  refine PySem.W.set_plain X J hs (PySem.W.osa_open (s := { s with toks := s.toks + 1 }) (r := none) X J hp ht fun b => ?_)
  obtain ⟨cd, hc, hd'⟩ := PySem.W.any_some hh
  have hx : s.heap.get? x = some ⟨.ref C, some dx, .plain, #[]⟩ := I.obj
  refine wpAny_bind (wpAny_pure (wpAny_bind (wpAny_bind (wpAny_loadPart hx (wpAny_bind (PySem.W.Looks.here (s := { s with toks := s.toks + 1 }) (PySem.W.looks_clsIn X hc) ?_))))))
  rw [hd']
  refine wpAny_pure (a := some dx) (wpAny_bind (wpAny_pure (wpAny_bind ?_)))
  refine wpAny_nsSet1 (s := { s with toks := s.toks + 1 }) I.ns fun h' hn2 hs2 => ?_
  obtain ⟨oD, esD, epD, hoD, hdD, hcD⟩ := hn2.count (PySem.Within.cons name v hw)
  refine wpAny_bind (wpAny_lookBehind hoD (by rw [hdD]; exact pastItsLine_dict (Nat.le_trans hcD (by rw [List.length_cons]; omega))) ?_)
  exact wpAny_pure (h _ ⟨(hs2.2 _ (Ne.symm I.ne)).trans I.obj, hn2, I.ne⟩ hs2)

theorem make_map {R : Result → Shared → Prop} {vs : List Value} {kw : List (Str × Value)} (X : K.In s.heap) (hm : PySem.W.makesIn K C = true)
    (hi : PySem.W.findIn K (.ref C) "__init__" = some (some (.ref f))) (hf : PySem.W.typeIn K (.ref f) = some (.type "function"))
    (h : codeAny (model prog w) (A.under (.builtin "type.__call__" ⟨.ref C :: vs, kw⟩)) (.call (.ref f) ⟨.ref (s.heap.objs.size + 1) :: vs, kw⟩) (PySem.W.InitBack (s.heap.objs.size + 1) R)
      { s with heap := (s.heap.push PySem.W.emptyDict).push (PySem.W.instObj C s.heap.objs.size) }) :
    codeAny (model prog w) A (.call (.ref C) ⟨vs, kw⟩) R s := by
  obtain ⟨hh, g, d, t, os⟩ := s
  exact PySem.W.make_core (PySem.W.makes_of X hm) (PySem.W.looks_findIn X hi) (fun self => PySem.W.bind_fn X self hf) (.inl rfl) h
end

/-! ### the attributes as a list of pairs -/
def putF (f : Str) (v : V) : List (Str × V) → List (Str × V)
  | [] => [(f, v)]
  | (g, x) :: r => if g = f then (g, v) :: r else (g, x) :: putF f v r
theorem lookup_putF (f g : Str) (v : V) : ∀ fs : List (Str × V), (putF f v fs).lookup g = if g = f then some v else fs.lookup g
  | [] => by
    show List.lookup g [(f, v)] = _
    by_cases h : g = f
    · have hb : (g == f) = true := beq_iff_eq.mpr h
      simp only [List.lookup, hb, if_pos h]
    · have hb : (g == f) = false := beq_eq_false_iff_ne.mpr h
      simp only [List.lookup, hb, if_neg h]
  | (k, x) :: r => by
    have ih := lookup_putF f g v r
    rw [show putF f v ((k, x) :: r) = (if k = f then (k, v) :: r else (k, x) :: putF f v r) from rfl]
    by_cases hk : k = f
    · rw [if_pos hk]
      by_cases h : g = k
      · have hb : (g == k) = true := beq_iff_eq.mpr h
        simp only [List.lookup, hb, if_pos (h.trans hk)]
      · have hb : (g == k) = false := beq_eq_false_iff_ne.mpr h
        simp only [List.lookup, hb, if_neg (fun e : g = f => h (e.trans hk.symm))]
    · rw [if_neg hk]
      by_cases h : g = k
      · have hb : (g == k) = true := beq_iff_eq.mpr h
        simp only [List.lookup, hb, if_neg (fun e : g = f => hk (h.symm.trans e))]
      · have hb : (g == k) = false := beq_eq_false_iff_ne.mpr h
        simp only [List.lookup, hb]
        exact ih
theorem keys_putF (f : Str) (v : V) : ∀ fs : List (Str × V), f ∈ (putF f v fs).map (·.1) ∧ ∀ g, g ∈ fs.map (·.1) → g ∈ (putF f v fs).map (·.1)
  | [] => ⟨by simp [putF], fun g h => by simp at h⟩
  | (k, x) :: r => by
    obtain ⟨i1, i2⟩ := keys_putF f v r
    rw [show putF f v ((k, x) :: r) = (if k = f then (k, v) :: r else (k, x) :: putF f v r) from rfl]
    by_cases hk : k = f
    · rw [if_pos hk]
      subst hk
      exact ⟨by simp, fun g h => by simpa using h⟩
    · rw [if_neg hk]
      refine ⟨?_, fun g h => ?_⟩
      · rw [List.map_cons]
        exact List.mem_cons_of_mem _ i1
      · rw [List.map_cons] at h ⊢
        rcases List.mem_cons.mp h with e | e
        · exact List.mem_cons.mpr (.inl e)
        · exact List.mem_cons_of_mem _ (i2 g e)
theorem length_putF (f : Str) (v : V) : ∀ fs : List (Str × V), (putF f v fs).length ≤ fs.length + 1
  | [] => by simp [putF]
  | (k, x) :: r => by
    have ih := length_putF f v r
    rw [show putF f v ((k, x) :: r) = (if k = f then (k, v) :: r else (k, x) :: putF f v r) from rfl]
    by_cases hk : k = f
    · rw [if_pos hk, List.length_cons, List.length_cons]; omega
    · rw [if_neg hk, List.length_cons, List.length_cons]; omega

theorem RelO.some_of {v : V} {o : Option Value} (r : RelO (some v) o) : ∃ u, o = some u ∧ RelV v u := by
  cases o with
  | none => exact (show False from r).elim
  | some u => exact ⟨u, rfl, r⟩
theorem RelO.none_of {o : Option Value} (r : RelO none o) : o = none := by
  cases o with
  | none => rfl
  | some u => exact (show False from r).elim
theorem handed_of {v : V} {u : Value} (r : RelV v u) : PySem.W.handedIn u = true := by
  cases v with
  | non => cases (show u = Value.none from r); rfl
  | bl b => cases (show u = Value.bool b from r); rfl
  | int i => obtain ⟨t, e⟩ := (show ∃ t, u = Value.int i t from r); cases e; rfl
  | str x => obtain ⟨t, e⟩ := (show ∃ t, u = Value.str x t from r); cases e; rfl
  | byt b => obtain ⟨t, e⟩ := (show ∃ t, u = Value.bytes b t from r); cases e; rfl
  | flt b => obtain ⟨t, e⟩ := (show ∃ t, u = Value.float b t from r); cases e; rfl
  | ref a => cases (show u = Value.ref a from r); rfl
  | ty n => cases (show u = Value.type n from r); rfl

section
variable {P : Program} {w : World} {H H' : Hp} {h h' : Heap} {a C dx : Addr} {fs fs' : List (Str × V)}
theorem ins_get (hok : HOk P w H h) (e : H a = some (.ins C dx fs)) : ∃ mA, ObjM h a dx C mA ∧ (∀ f, RelO (fs.lookup f) (mA f)) ∧ PySem.Within mA (fs.map (·.1)) ∧ fs.length ≤ 1000 ∧ H dx = some (.own a) := by
  obtain ⟨d, z, ne, ob, mA, n, r, q⟩ := (show ObjOk P w H h a (.ins C dx fs) from hok a _ e)
  exact ⟨mA, ⟨ob, n, ne⟩, r, q, z, d⟩
end

/-! ### what of the text a class must have -/
structure Cls (K : PySem.W.Frag) (C : Addr) : Prop where
  pg : PySem.W.plainGet K C Str.empty = true
  hd : PySem.W.hasDictIn K C = true
  po : PySem.W.plainOver K C = true
  sa : PySem.W.findIn K (.ref C) "__setattr__" = some (some (.builtin "object.__setattr__"))
theorem Cls.get {K : PySem.W.Frag} {C : Addr} (c : Cls K C) (f : Str) : PySem.W.plainGet K C f = true := c.pg
def NoAttr (K : PySem.W.Frag) (C : Addr) (f : Str) : Prop := PySem.W.findIn K (.ref C) f = some none
theorem NoAttr.taker {K : PySem.W.Frag} {C : Addr} {f : Str} (n : NoAttr K C f) : PySem.W.takerIn K C f = some none := by
  unfold PySem.W.takerIn
  rw [show PySem.W.findIn K (.ref C) f = some none from n]
  rfl
structure Con (K : PySem.W.Frag) (C : Addr) (f : Str) (v : V) (u : Value) : Prop where
  at_ : PySem.W.findIn K (.ref C) f = some (some u)
  rel : RelV v u
  get : PySem.W.specialIn K u "__get__" = some none
  cp : PySem.W.copiedNames.contains f = false
structure Meth (K : PySem.W.Frag) (C : Addr) (m : Str) (f : Addr) : Prop where
  at_ : PySem.W.findIn K (.ref C) m = some (some (.ref f))
  fn : PySem.W.isFn K (.ref f) = true
  kp : PySem.W.keepIn K (.ref f) = true

section
variable {X : Cx} {pins : List (Addr × Obj)} {σ : St} {H : Hp} {s : Shared} {a C dx : Addr} {fs : List (Str × V)} {f : Str} {v : V} {A : Around} {E : Value → Shared → Prop}

theorem getattr_ok {b : Bool} {Q : Value → Shared → Prop} (I : Inv X pins σ H s) (e : H a = some (.ins C dx fs)) (c : Cls X.K C) (n : NoAttr X.K C f) (l : fs.lookup f = some v)
    (h : ∀ u s', Inv X pins σ H s' → RelV v u → Q u s') : wpAny (model X.prog X.w) A (getAttr (.ref a) f b) Q E s := by
  obtain ⟨mA, O, r, _, _, _⟩ := ins_get I.hok e
  obtain ⟨u, hu, ru⟩ := RelO.some_of (v := v) (o := mA f) (by rw [← l]; exact r f)
  exact get_map I.kIn O (c.get f) c.hd n hu (handed_of ru) (h u _ (I.tok _) ru)

theorem getmeth_ok {m : Str} {g : Addr} {pl : Sem Bool} {Q : Value × List Value → Shared → Prop} (I : Inv X pins σ H s) (e : H a = some (.ins C dx fs)) (c : Cls X.K C) (k : Meth X.K C m g) (l : fs.lookup m = none)
    (h : Q (.ref g, [.ref a]) s) : wpAny (model X.prog X.w) A (getMethod (.ref a) m pl) Q E s := by
  obtain ⟨mA, O, r, _, _, _⟩ := ins_get I.hok e
  have hn : mA m = none := RelO.none_of (by rw [← l]; exact r m)
  exact get_meth I.kIn O (c.get m) k.at_ k.fn hn h

theorem setattr_ok {y : V} {u : Value} {Q : Unit → Shared → Prop} (I : Inv X pins σ H s) (e : H a = some (.ins C dx fs)) (c : Cls X.K C) (n : NoAttr X.K C f) (hl : fs.length < 1000) (ry : RelV y u)
    (h : ∀ s', Inv X pins σ (upd H a (.ins C dx (putF f y fs))) s' → Q () s') : wpAny (model X.prog X.w) A (setAttr (.ref a) f u) Q E s := by
  obtain ⟨mA, O, r, wi, _, ho⟩ := ins_get I.hok e
  have hz : (fs.map (·.1)).length ≤ sizeLine := by rw [List.length_map, sizeLine_eq]; omega
  refine set_map I.kIn O c.sa c.po n.taker c.hd wi hz fun h' O' sb => h _ ?_
  have hd : ∃ o, h'.get? dx = some o := let ⟨o, _, _, e', _⟩ := O'.ns; ⟨o, e'⟩
  refine I.write (x := a) (e := dx) (by rw [e]; exact True.intro) (.inr ho) (fun b q hb z => (sb.2 b hb).trans z) hd ?_
  refine ⟨by rw [upd_ne O.ne]; exact ho, ?_, O.ne, O'.obj, _, O'.ns, fun g => ?_, fun g hg => ?_⟩
  · have := length_putF f y fs; omega
  · show RelO ((putF f y fs).lookup g) (if g = f then some u else mA g)
    rw [lookup_putF]
    by_cases q : g = f
    · rw [if_pos q, if_pos q]; exact ry
    · rw [if_neg q, if_neg q]; exact r g
  · by_cases q : g = f
    · rw [q]; exact (keys_putF f y fs).1
    · refine (keys_putF f y fs).2 g (wi g fun z => hg ?_)
      show (if g = f then some u else mA g) = none
      rw [if_neg q]; exact z

theorem Inv.made (I : Inv X pins σ H s) : Inv X pins σ (upd (upd H s.heap.objs.size (.own (s.heap.objs.size + 1))) (s.heap.objs.size + 1) (.ins C s.heap.objs.size []))
    { s with heap := (s.heap.push PySem.W.emptyDict).push (PySem.W.instObj C s.heap.objs.size) } := by
  have e1 : (s.heap.push PySem.W.emptyDict).get? s.heap.objs.size = some PySem.W.emptyDict := Heap.get?_push_size s.heap rfl
  have e2 : ((s.heap.push PySem.W.emptyDict).push (PySem.W.instObj C s.heap.objs.size)).get? (s.heap.objs.size + 1) = some (PySem.W.instObj C s.heap.objs.size) := by
    have := Heap.get?_push_size (s.heap.push PySem.W.emptyDict) (o := PySem.W.instObj C s.heap.objs.size) rfl
    rwa [Heap.size_push] at this
  have e3 : (s.heap.push PySem.W.emptyDict).Ns s.heap.objs.size (fun _ => none) := ⟨PySem.W.emptyDict, #[], _, e1, rfl, (fun e he => absurd he (by simp)), fun _ => rfl⟩
  have I1 := I.laid (a := s.heap.objs.size) (o := .own (s.heap.objs.size + 1)) (h' := s.heap.push PySem.W.emptyDict) (t' := s.toks) (fun b u q => Heap.get?_push_of_some _ q) (Nat.le_refl _) ⟨_, e1⟩
  refine I1.laid (a := s.heap.objs.size + 1) (o := .ins C s.heap.objs.size []) (t' := s.toks) (fun b u q => Heap.get?_push_of_some _ q) (Nat.le_of_eq (Heap.size_push _ _)) ?_
  have ne : s.heap.objs.size ≠ s.heap.objs.size + 1 := Nat.ne_of_lt (Nat.lt_succ_self _)
  refine ⟨by rw [upd_ne ne, upd_same], Nat.zero_le _, ne, e2, fun _ => none, (Heap.Ns1.of_empty e3).at fun o q => Heap.get?_push_of_some _ q, fun _ => True.intro, fun y hy => absurd rfl hy⟩

theorem attr_of {prog : Program} {w : World} {env : Env} {e : Expr} {f : Str} {pos : Pos} {s : Shared} {Q : Value → Shared → Prop} (hb : attributeBase e f env (eval e env) = eval e env)
    (h : wpAny (model prog w) A (eval e env) (fun o s₁ => wpAny (model prog w) A (getAttr o f true) Q E s₁) E s) : wpAny (model prog w) A (eval (.Attribute e f pos) env) Q E s :=
  Attribute_any_ h (by rw [arm_eval_Attribute, hb])
end

/-! ### readings and rules -/
def tFld (K : PySem.W.Frag) (ta : TE) (f : Str) : TE := fun σ H Q => ta σ H fun x H1 => ∃ a C dx fs v, x = .ref a ∧ H1 a = some (.ins C dx fs) ∧ Cls K C ∧ NoAttr K C f ∧ fs.lookup f = some v ∧ Q v H1
def sFld (K : PySem.W.Frag) (ta tv : TE) (f : Str) : TS := fun D σ H => tv σ H fun y H1 => ta σ H1 fun x H2 => ∃ a C dx fs, x = .ref a ∧ H2 a = some (.ins C dx fs) ∧ Cls K C ∧ NoAttr K C f ∧ fs.length < 1000 ∧
  D.nx σ (upd H2 a (.ins C dx (putF f y fs)))
section
variable {X : Cx} {o e value : Expr} {f : Str} {pos pos' tpos : Pos} {ta tv : TE}
theorem pe_fld (he : PE X e ta) (hb : attributeBase e f X.env (eval e X.env) = eval e X.env) : PE X (.Attribute e f pos) (tFld X.K ta f) := by
  intro pins s σ H Q I h
  refine attr_of hb (thn (he pins s σ H _ I h) fun u s1 ⟨x, H1, I1, rx, a, C, dx, fs, v, ex, ea, c, n, l, q⟩ => ?_)
  subst ex
  obtain rfl : u = Value.ref a := rx
  exact getattr_ok I1 ea c n l fun u' s2 I2 ru => ⟨v, H1, I2, ru, q⟩
theorem ps_fld (ha : PE X o ta) (hv : PE X value tv) (hs : swapsWith value (some (.Attribute o f pos')) pos.line X.env = pure false) : PS X (.Assign [.Attribute o f pos'] value pos) (sFld X.K ta tv f) := by
  intro pins s σ H D I h
  refine plainObj_wpAny_Assign_Attribute (thn (hv pins s σ H _ I h) fun u s1 ⟨y, H1, I1, ry, q⟩ => thn (ha pins s1 σ H1 _ I1 q) fun ov s2 ⟨x, H2, I2, rx, a, C, dx, fs, ex, ea, c, n, l, q2⟩ => ?_) hs
  subst ex
  obtain rfl : ov = Value.ref a := rx
  exact setattr_ok I2 ea c n l ry fun s3 I3 => ⟨σ, _, I3, q2⟩
end

/-! ### isinstance -/
section
variable {X : Cx} {pins : List (Addr × Obj)} {σ : St} {H : Hp} {s : Shared} {A : Around} {E : Value → Shared → Prop} {Q : Value → Shared → Prop} {c : Value} {b : Bool}
inductive TyOf (K : PySem.W.Frag) (H : Hp) : V → Value → Prop where
  | non : TyOf K H .non (.type "NoneType")
  | bl (x : Bool) : TyOf K H (.bl x) (.type "bool")
  | int (i : Int) : TyOf K H (.int i) (.type "int")
  | str (x : Str) : TyOf K H (.str x) (.type "str")
  | flt (x : UInt64) : TyOf K H (.flt x) (.type "float")
  | lst {a : Addr} {xs : List V} (e : H a = some (.lst xs)) : TyOf K H (.ref a) (.type "list")
  | frz {a : Addr} {o : Obj} {xs : List V} (e : H a = some (.frz o (.lst xs))) : TyOf K H (.ref a) (.type "list")
  | tup {a : Addr} {xs : List V} (e : H a = some (.tup xs)) : TyOf K H (.ref a) (.type "tuple")
  | dK {a : Addr} {kvs : List (Key × V)} (e : H a = some (.dK kvs)) : TyOf K H (.ref a) (.type "dict")
  | dT {a : Addr} {kvs : List (List Key × V)} (e : H a = some (.dT kvs)) : TyOf K H (.ref a) (.type "dict")
  | ins {a C dx : Addr} {fs : List (Str × V)} (e : H a = some (.ins C dx fs)) (cl : Cls K C) (ha : PySem.W.findIn K (.ref C) "__class__" = some (some (.builtin "object.__class__")))
      (hn : PySem.W.specialIn K (.builtin "object.__class__") "__get__" = some (some (.builtin "getset_descriptor.__get__"))) (htk : PySem.W.takesIn K (.builtin "object.__class__") = some true)
      (hm : PySem.W.mroIn K C (.type "object") = some true) : TyOf K H (.ref a) (.ref C)
theorem isinst_ok {x : V} {u t : Value} (I : Inv X pins σ H s) (rx : RelV x u) (ty : TyOf X.K H x t) (e : PySem.W.kitOne X.K t c = some b) (h : ∀ tk, Q (.bool b) { s with toks := tk }) :
    wpAny (model X.prog X.w) A (call (.builtin "isinstance") [u, c]) Q E s := by
  cases ty with
  | non => cases (show u = Value.none from rx); exact PySem.W.kia_one PySem.W.kitx_none I.kIn True.intro e (fun z => nomatch z) h
  | bl y => cases (show u = Value.bool y from rx); exact PySem.W.kia_one PySem.W.kitx_bool I.kIn True.intro e (fun z => nomatch z) h
  | int i => obtain ⟨t, q⟩ := (show ∃ t, u = Value.int i t from rx); cases q; exact PySem.W.kia_one PySem.W.kitx_int I.kIn True.intro e (fun z => nomatch z) h
  | str y => obtain ⟨t, q⟩ := (show ∃ t, u = Value.str y t from rx); cases q; exact PySem.W.kia_one PySem.W.kitx_str I.kIn True.intro e (fun z => nomatch z) h
  | flt y => obtain ⟨t, q⟩ := (show ∃ t, u = Value.float y t from rx); cases q; exact PySem.W.kia_one PySem.W.kitx_float I.kIn True.intro e (fun z => nomatch z) h
  | @lst a xs ea =>
    cases (show u = Value.ref a from rx)
    obtain ⟨_, _, n, _, h1⟩ := (show ObjOk X.prog X.w H s.heap a (.lst xs) from I.hok a _ ea)
    exact PySem.W.kia_one PySem.W.kitx_list I.kIn ⟨_, h1, rfl⟩ e (fun z => nomatch z) h
  | @frz a ob xs ea =>
    cases (show u = Value.ref a from rx)
    obtain ⟨_, _, _, n, _, h1⟩ := (show ObjOk X.prog X.w H s.heap a (.frz ob (.lst xs)) from I.hok a _ ea)
    exact PySem.W.kia_one PySem.W.kitx_list I.kIn ⟨_, h1, rfl⟩ e (fun z => nomatch z) h
  | @tup a xs ea =>
    cases (show u = Value.ref a from rx)
    obtain ⟨_, _, _, p⟩ := (show ObjOk X.prog X.w H s.heap a (.tup xs) from I.hok a _ ea)
    obtain ⟨o, h1, h2, _⟩ := p
    exact PySem.W.kia_one PySem.W.kitx_tuple I.kIn ⟨o, h1, h2⟩ e (fun z => nomatch z) h
  | @dK a kvs ea =>
    cases (show u = Value.ref a from rx)
    obtain ⟨_, _, vs, _, p⟩ := (show ObjOk X.prog X.w H s.heap a (.dK kvs) from I.hok a _ ea)
    obtain ⟨o, es, ep, h1, h2, _⟩ := p
    exact PySem.W.kia_one PySem.W.kitx_dict I.kIn ⟨o, h1, h2.1⟩ e (fun z => nomatch z) h
  | @dT a kvs ea =>
    cases (show u = Value.ref a from rx)
    obtain ⟨_, _, xs, _, o, es, ep, h1, h2, _⟩ := (show ObjOk X.prog X.w H s.heap a (.dT kvs) from I.hok a _ ea)
    exact PySem.W.kia_one PySem.W.kitx_dict I.kIn ⟨o, h1, h2.1⟩ e (fun z => nomatch z) h
  | @ins a C dx fs ea cl ha hn htk hm =>
    cases (show u = Value.ref a from rx)
    obtain ⟨mA, O, _⟩ := ins_get I.hok ea
    obtain ⟨od, J, _⟩ := O.look
    exact PySem.W.kia_one (PySem.W.kitx_own (cl.get _) cl.hd ha hn htk hm) I.kIn J e (fun z => nomatch z) h
end
end L2

namespace L2
open PySem PySem.Spec PyProof.Rows

/-! ### room -/
structure Room (k : Nat) (A : Around) : Prop where
  hd : A.handled = none
  dp : A.depth + 3 * k + 5 < recursionLimit
  un : A.units + 16 * k + 200 < cLine
theorem Room.mono {j k : Nat} {A : Around} (r : Room k A) (h : j ≤ k) : Room j A := ⟨r.hd, by have := r.dp; omega, by have := r.un; omega⟩
theorem Room.deeper {k : Nat} {A : Around} (r : Room (k + 1) A) (env : Env) : Room k (A.deeper env) :=
  ⟨r.hd, by have := r.dp; show A.depth + 1 + 3 * k + 5 < _; omega, by have := r.un; show A.units + 3 + 16 * k + 200 < _; omega⟩
theorem Room.in1 {k : Nat} {A : Around} (r : Room (k + 1) A) : Room k A.in1 :=
  ⟨r.hd, by have := r.dp; show A.depth + 3 * k + 5 < _; omega, by have := r.un; show A.units + 1 + 16 * k + 200 < _; omega⟩
theorem make_depth {A : Around} {C : Addr} {us : List Value} {kw : List (Str × Value)} : (A.under (.builtin "type.__call__" ⟨.ref C :: us, kw⟩)).depth = A.depth + 1 := by
  first | rfl | simp [Around.under, Code.weight, Code.isCreation, Code.isGuard, Code.isCaller, Code.frames, Code.isFrame, guardIds]
theorem make_units {A : Around} {C : Addr} {us : List Value} {kw : List (Str × Value)} : (A.under (.builtin "type.__call__" ⟨.ref C :: us, kw⟩)).units = A.units + 1 := by
  first | rfl | simp [Around.under, Code.cUnits, Code.frames, Code.isFrame]
theorem Room.make {k : Nat} {A : Around} (r : Room (k + 1) A) (C : Addr) (us : List Value) (kw : List (Str × Value)) : Room k (A.under (.builtin "type.__call__" ⟨.ref C :: us, kw⟩)) :=
  ⟨r.hd, by have := r.dp; rw [make_depth]; omega, by have := r.un; rw [make_units]; omega⟩
theorem Room.depth {k : Nat} {A : Around} (r : Room k A) : A.depth < recursionLimit := by have := r.dp; omega
theorem Room.units {k : Nat} {A : Around} (r : Room k A) : A.units + 64 < cLine := by have := r.un; omega
theorem Room.units0 {k : Nat} {A : Around} (r : Room k A) : A.units < cLine := by have := r.un; omega

/-! ### argument lists and displays -/
def tNil : TA := fun _ H Q => Q [] H
def tCons (ta : TE) (tr : TA) : TA := fun σ H Q => ta σ H fun x H1 => tr σ H1 fun xs H2 => Q (x :: xs) H2
section
variable {X : Cx} {e : Expr} {es : List Expr} {te : TE} {t : TA} {pos : Pos}
theorem pa_nil : PA X [] tNil := fun _ _ _ _ H Q I h => Calls.spliced_nil ⟨[], H, I, .nil, h⟩
theorem pa_cons (ha : PE X e te) (hr : PA X es t) (hs : starEach (e :: es) X.env = (false, eval e X.env) :: starEach es X.env := by rfl) : PA X (e :: es) (tCons te t) := by
  intro pos pins s σ H Q I h
  rw [hs]
  show wpAny _ _ (spliced ((false, eval e X.env) :: backTo pos (starEach es X.env))) _ _ s
  refine Calls.spliced_cons (thn (ha pins s σ H _ I h) fun u s1 ⟨x, H1, I1, r1, q1⟩ => ?_)
  exact thn (hr pos pins s1 σ H1 _ I1 q1) fun us s2 ⟨xs, H2, I2, r2, q2⟩ => ⟨x :: xs, H2, I2, .cons r1 r2, q2⟩

def tTup (t : TA) : TE := fun σ H Q => t σ H fun xs H1 => xs.length ≤ sizeLine ∧ ∀ p, H1 p = none → Q (.ref p) (upd H1 p (.tup xs))
def tLst (t : TA) : TE := fun σ H Q => t σ H fun xs H1 => xs.length ≤ sizeLine ∧ ∀ p, H1 p = none → Q (.ref p) (upd H1 p (.lst xs))
theorem pe_tup {x1} (h : PA X es t) : PE X (.Tuple es x1 pos) (tTup t) := by
  intro pins s σ H Q I hq
  refine wpAny_Tuple_spliced (thn (h pos pins s σ H _ I hq) fun us s1 ⟨xs, H1, I1, r, z, q⟩ => ⟨by rw [← r.length]; exact z, ?_⟩)
  have hf : H1 s1.heap.objs.size = none := I1.hok.fresh (Nat.le_refl _)
  refine ⟨.ref s1.heap.objs.size, upd H1 s1.heap.objs.size (.tup xs), I1.laid (t' := s1.toks) (fun b u e => Heap.get?_push_of_some _ e) (Nat.le_refl _) ?_, rfl, q _ hf⟩
  exact ⟨z, us, r, ⟨_, Heap.get?_push_size _ rfl, rfl, _, rfl⟩⟩
theorem pe_lst (h : PA X es t) : PE X (.List es pos) (tLst t) := by
  intro pins s σ H Q I hq
  refine wpAny_List_spliced (thn (h pos pins s σ H _ I hq) fun us s1 ⟨xs, H1, I1, r, z, q⟩ => ⟨by rw [← r.length]; exact z, ?_⟩)
  have hf : H1 s1.heap.objs.size = none := I1.hok.fresh (Nat.le_refl _)
  refine ⟨.ref s1.heap.objs.size, upd H1 s1.heap.objs.size (.lst xs), I1.laid (t' := s1.toks) (fun b u e => Heap.get?_push_of_some _ e) (Nat.le_refl _) ?_, rfl, q _ hf⟩
  exact ⟨z, us, 0, r, Heap.get?_push_size _ rfl⟩
end

/-! ### what a def promises -/
abbrev Sp := List V → Hp → VK → XK → Prop
abbrev CXT := List Env → Hp → Shared → XK → Value → Shared → Prop

structure Env0 (P : Program) (w : World) (K : PySem.W.Frag) (mg : Str → Option Value) (base : Heap) (A : Around) (outer : List Env) (s : Shared) (H : Hp) : Prop where
  frames : A.frames = some outer
  mod : Mod K mg base
  bs : ∀ b o, base.get? b = some o → s.heap.get? b = some o ∧ H b = none
  bsz : base.objs.size ≤ s.heap.objs.size
  funs : s.heap.FunFrames base outer
  frf : ∀ b ∈ frs outer, H b = none
  hok : HOk P w H s.heap
  bare : AllBare s.gens
def CE (outer : List Env) (P : Program) (w : World) (H : Hp) (s : Shared) (Q : VK) (u : Value) (s' : Shared) : Prop :=
  ∃ v H', s'.os = s.os ∧ AllBare s'.gens ∧ Un (frs outer) [] H H' s.heap s'.heap ∧ HOk P w H' s'.heap ∧ RelV v u ∧ Q v H'
def CR (CX : CXT) (outer : List Env) (P : Program) (w : World) (H : Hp) (s : Shared) (Q : VK) (E : XK) (r : Result) (s' : Shared) : Prop :=
  match r with
  | .ok (.ret u) => CE outer P w H s Q u s'
  | .ok _ => False
  | .error e => CX outer H s E e s'
structure FnOk (P : Program) (w : World) (K : PySem.W.Frag) (mg : Str → Option Value) (base : Heap) (CX : CXT) (k : Nat) (f : Addr) (fd : FuncData) (ps : List Str) (sp : Sp) : Prop where
  len : ∀ vs H Q E, sp vs H Q E → vs.length = ps.length
  run : ∀ (A : Around) (outer : List Env) (s : Shared) (H : Hp) (args : Args) (us : List Value) (vs : List V) (Q : VK) (E : XK), Room k A → Env0 P w K mg base A outer s H → BindsTo s fd args (ps.zip us) → Vals vs us → sp vs H Q E →
    codeAny (model P w) A (.call (.ref f) args) (CR CX outer P w H s Q E) s
theorem FnOk.mono {P : Program} {w : World} {K : PySem.W.Frag} {mg : Str → Option Value} {base : Heap} {CX : CXT} {j k : Nat} {f : Addr} {fd : FuncData} {ps : List Str} {sp : Sp} (F : FnOk P w K mg base CX j f fd ps sp) (h : j ≤ k) :
    FnOk P w K mg base CX k f fd ps sp := ⟨F.len, fun A outer s H args us vs Q E hr => F.run A outer s H args us vs Q E (hr.mono h)⟩
theorem Env0.make {P : Program} {w : World} {K : PySem.W.Frag} {mg : Str → Option Value} {base : Heap} {A : Around} {outer : List Env} {s : Shared} {H : Hp} (e : Env0 P w K mg base A outer s H) (C : Addr) (us : List Value) (kw : List (Str × Value)) :
    Env0 P w K mg base (A.under (.builtin "type.__call__" ⟨.ref C :: us, kw⟩)) outer s H := ⟨by first | exact e.frames | (simpa [Around.under, Code.envs, Code.isFrame, pushEnvs] using e.frames), e.mod, e.bs, e.bsz, e.funs, e.frf, e.hok, e.bare⟩
theorem Env0.in1 {P : Program} {w : World} {K : PySem.W.Frag} {mg : Str → Option Value} {base : Heap} {A : Around} {outer : List Env} {s : Shared} {H : Hp} (e : Env0 P w K mg base A outer s H) :
    Env0 P w K mg base A.in1 outer s H := ⟨e.frames, e.mod, e.bs, e.bsz, e.funs, e.frf, e.hok, e.bare⟩

section
variable {X : Cx} {pins : List (Addr × Obj)} {σ : St} {H : Hp} {s s' : Shared}
theorem Inv.env0 (I : Inv X pins σ H s) : Env0 X.prog X.w X.K X.mg X.base X.A X.stack s H :=
  ⟨I.ok.frames, I.ok.mod, I.bs, Nat.le_trans I.ok.bsz I.sz, I.stack, I.stkFree, I.hok, I.bare⟩
theorem Inv.after {Q : VK} {u : Value} (I : Inv X pins σ H s) (h : CE X.stack X.prog X.w H s Q u s') : EP X pins σ Q u s' := by
  obtain ⟨v, H', os, bare, un, hok, r, q⟩ := h
  obtain ⟨hh, g, d, t, os'⟩ := s'
  obtain rfl : os' = s.os := os
  exact ⟨v, H', I.call (h' := hh) (g' := g) (d' := d) (t' := t) (ch := []) un hok bare (fun b z => absurd z (by simp)), r, q⟩
end

/-! ### calls -/
def tCall (sp : Sp) (dvs : List V) (E : XK) (t : TA) : TE := fun σ H Q => t σ H fun vs H1 => sp (vs ++ dvs) H1 Q E
def tMeth (C : Addr) (m : Str) (sp : Sp) (dvs : List V) (E : XK) (ta : TE) (t : TA) : TE := fun σ H Q => ta σ H fun x H1 => ∃ a dx fs, x = .ref a ∧ H1 a = some (.ins C dx fs) ∧ fs.lookup m = none ∧
  t σ H1 fun vs H2 => sp (x :: (vs ++ dvs)) H2 Q E
def tMake (C : Addr) (sp : Sp) (dvs : List V) (E : XK) (t : TA) : TE := fun σ H Q => t σ H fun vs H1 => ∀ x dx, H1 x = none → H1 dx = none → dx ≠ x →
  sp (.ref x :: (vs ++ dvs)) (upd (upd H1 dx (.own x)) x (.ins C dx [])) (fun v H2 => v = .non ∧ Q (.ref x) H2) E

def Binds (K : PySem.W.Frag) (fd : FuncData) (ps : List Str) (ds : List Value) : Prop :=
  ∀ (s : Shared) (us : List Value), K.In s.heap → (us ++ ds).length = ps.length → BindsTo s fd ⟨us, []⟩ (ps.zip (us ++ ds))
theorem Binds.all {K : PySem.W.Frag} {fd : FuncData} {ps : List Str} (h : ∀ us : List Value, us.length = ps.length → bindArgs fd ⟨us, []⟩ = pure (ps.zip us)) : Binds K fd ps [] := fun s us _ hl => by
  rw [List.append_nil] at hl ⊢
  exact .of_eq (h us hl)

def Passes (CX : CXT) (X : Cx) (E : XK) : Prop := ∀ (pins : List (Addr × Obj)) (σ : St) (H : Hp) (s : Shared) (e : Value) (s' : Shared), Inv X pins σ H s → CX X.stack H s E e s' → X.xe e s'

section
variable {X : Cx} {CX : CXT} {k : Nat} {f C : Addr} {fd : FuncData} {ps : List Str} {sp : Sp} {dvs : List V} {ds : List Value} {E : XK} {x m : Str} {p pos apos : Pos} {e o : Expr} {es : List Expr} {ta : TE} {t : TA}

theorem run_fn {pins : List (Addr × Obj)} {σ : St} {H : Hp} {s : Shared} {Q : VK} {us : List Value} {vs : List V} (F : FnOk X.prog X.w X.K X.mg X.base CX k f fd ps sp) (hr : Room k X.A) (hb : Binds X.K fd ps ds) (hd : Vals dvs ds) (hx : Passes CX X E)
    (I : Inv X pins σ H s) (r : Vals vs us) (h : sp (vs ++ dvs) H Q E) : wpAny (model X.prog X.w) X.A (call (.ref f) us) (EP X pins σ Q) X.xe s := by
  have r2 : Vals (vs ++ dvs) (us ++ ds) := r.append hd
  have hl : (us ++ ds).length = ps.length := by rw [← r2.length]; exact F.len _ _ _ _ h
  refine wpAny_call (codeAny_mono (F.run X.A X.stack s H ⟨us, []⟩ (us ++ ds) (vs ++ dvs) Q E hr I.env0 (hb s us I.kIn hl) r2 h) fun r s' hq => ?_)
  cases r with
  | error e => exact hx pins σ H s e s' I hq
  | ok fl =>
    cases fl with
    | ret u => exact I.after hq
    | next => exact False.elim hq
    | brk => exact False.elim hq
    | cont => exact False.elim hq

theorem pe_call (F : FnOk X.prog X.w X.K X.mg X.base CX k f fd ps sp) (hr : Room k X.A) (hg : Gl X x) (hm : X.mg x = some (.ref f)) (hk : PySem.W.keepIn X.K (.ref f) = true) (hb : Binds X.K fd ps ds) (hd : Vals dvs ds) (hx : Passes CX X E)
    (ha : PA X (e :: es) t) (hdb : (x == ("__debug__" : Str)) = false := by decide) (he : starEach (e :: es) X.env = (false, eval e X.env) :: starEach es X.env := by rfl) (hpl : (backTo pos (starEach es X.env)).any (·.1) = false := by rfl) :
    PE X (.Call (.Name x p) (e :: es) [] pos) (tCall sp dvs E t) := by
  intro pins s σ H Q I h
  refine wpAny_Call_Name_kw (ld_glob I hg hm ?_ hdb)
  refine PySem.W.callWith_K (h₀ := X.base) I.ok.mod.kin hk (thn (ha pos pins s σ H _ I h) fun us s1 ⟨vs, H1, I1, r, q⟩ => ⟨I1.kIn, ?_⟩) he hpl
  exact run_fn F hr hb hd hx I1 r q
theorem pe_meth {pl : Sem Bool} (he : PE X o ta) (c : Cls X.K C) (hm : Meth X.K C m f) (F : FnOk X.prog X.w X.K X.mg X.base CX k f fd ps sp) (hr : Room k X.A) (hb : Binds X.K fd ps ds) (hd : Vals dvs ds) (hx : Passes CX X E) (ha : PA X (e :: es) t)
    (hst : starEach (e :: es) X.env = (false, eval e X.env) :: starEach es X.env := by rfl) (hpl : (backTo pos (starEach es X.env)).any (·.1) = false := by rfl)
    (ht : eval (.Call (.Attribute o m apos) (e :: es) [] pos) X.env = (do
      let ov ← eval o X.env
      standAt apos.atName
      let (f, first) ← holding [ov] (getMethod ov m pl)
      callWith pos f first (backTo pos (starEach (e :: es) X.env)) (backToKw pos (keywordEach [] X.env))) := by rfl) :
    PE X (.Call (.Attribute o m apos) (e :: es) [] pos) (tMeth C m sp dvs E ta t) := by
  intro pins s σ H Q I h
  refine PySem.W.methodCall_KW (pl := pl) (thn (he pins s σ H _ I h) fun u s1 ⟨x, H1, I1, rx, a, dx, fs, ex, ea, l, q⟩ => ?_) ht
  subst ex
  obtain rfl : u = Value.ref a := rx
  refine getmeth_ok I1 ea c hm l ?_
  refine PySem.W.callWith_K (first := [.ref a]) (h₀ := X.base) I.ok.mod.kin hm.kp (thn (ha pos pins s1 σ H1 _ I1 q) fun us s2 ⟨vs, H2, I2, r, q2⟩ => ⟨I2.kIn, ?_⟩) hst hpl
  exact run_fn (us := .ref a :: us) (vs := .ref a :: vs) F hr hb hd hx I2 (.cons rfl r) q2
theorem pe_meth0 {pl : Sem Bool} (he : PE X o ta) (c : Cls X.K C) (hm : Meth X.K C m f) (F : FnOk X.prog X.w X.K X.mg X.base CX k f fd ps sp) (hr : Room k X.A) (hb : Binds X.K fd ps ds) (hd : Vals dvs ds) (hx : Passes CX X E)
    (ht : eval (.Call (.Attribute o m apos) [] [] pos) X.env = (do
      let ov ← eval o X.env
      standAt apos.atName
      let (f, first) ← holding [ov] (getMethod ov m pl)
      callWith pos f first (backTo pos (starEach [] X.env)) (backToKw pos (keywordEach [] X.env))) := by rfl) :
    PE X (.Call (.Attribute o m apos) [] [] pos) (tMeth C m sp dvs E ta tNil) := by
  intro pins s σ H Q I h
  refine PySem.W.methodCall_KW (pl := pl) (thn (he pins s σ H _ I h) fun u s1 ⟨x, H1, I1, rx, a, dx, fs, ex, ea, l, q⟩ => ?_) ht
  subst ex
  obtain rfl : u = Value.ref a := rx
  refine getmeth_ok I1 ea c hm l ?_
  exact PySem.W.callWith_K0 (first := [.ref a]) I1.kIn hm.kp (run_fn (us := [.ref a]) (vs := [.ref a]) F hr hb hd hx I1 (.cons rfl .nil) q)

structure Mk (K : PySem.W.Frag) (C f : Addr) : Prop where
  makes : PySem.W.makesIn K C = true
  init : PySem.W.findIn K (.ref C) "__init__" = some (some (.ref f))
  fn : PySem.W.isFn K (.ref f) = true
  kp : PySem.W.keepIn K (.ref C) = true

theorem run_make {pins : List (Addr × Obj)} {σ : St} {H : Hp} {s : Shared} {Q : VK} {us : List Value} {vs : List V} (M : Mk X.K C f) (F : FnOk X.prog X.w X.K X.mg X.base CX k f fd ps sp) (hr : Room (k + 1) X.A) (hb : Binds X.K fd ps ds) (hd : Vals dvs ds)
    (hx : Passes CX X E) (I : Inv X pins σ H s) (r : Vals vs us)
    (h : ∀ x dx, H x = none → H dx = none → dx ≠ x → sp (.ref x :: (vs ++ dvs)) (upd (upd H dx (.own x)) x (.ins C dx [])) (fun v H2 => v = .non ∧ Q (.ref x) H2) E) :
    wpAny (model X.prog X.w) X.A (call (.ref C) us) (EP X pins σ Q) X.xe s := by
  have hq := h (s.heap.objs.size + 1) s.heap.objs.size (I.hok.fresh (Nat.le_succ _)) (I.hok.fresh (Nat.le_refl _)) (Nat.ne_of_lt (Nat.lt_succ_self _))
  have I2 := Inv.made (C := C) I
  have r2 : Vals (V.ref (s.heap.objs.size + 1) :: (vs ++ dvs)) (Value.ref (s.heap.objs.size + 1) :: (us ++ ds)) := .cons rfl (r.append hd)
  have hl : (Value.ref (s.heap.objs.size + 1) :: us ++ ds).length = ps.length := by
    have e := r2.length
    rw [F.len _ _ _ _ hq] at e
    exact e.symm
  refine wpAny_call (make_map (f := f) I.kIn M.makes M.init (beq_iff_eq.mp M.fn) (codeAny_mono (F.run _ X.stack _ _ ⟨Value.ref (s.heap.objs.size + 1) :: us, []⟩ (Value.ref (s.heap.objs.size + 1) :: (us ++ ds)) _ _ E (hr.make C us [])
    (I2.env0.make C us []) (hb _ (Value.ref (s.heap.objs.size + 1) :: us) I2.kIn hl) r2 hq) fun r s' hq' => ?_))
  cases r with
  | error e => exact hx pins σ _ _ e s' I2 hq'
  | ok fl =>
    cases fl with
    | ret u =>
      obtain ⟨v, H', I3, rv, ev, q3⟩ := I2.after hq'
      subst ev
      exact ⟨rv, ⟨V.ref (s.heap.objs.size + 1), H', I3, rfl, q3⟩⟩
    | next => exact False.elim hq'
    | brk => exact False.elim hq'
    | cont => exact False.elim hq'
theorem pe_make (M : Mk X.K C f) (F : FnOk X.prog X.w X.K X.mg X.base CX k f fd ps sp) (hr : Room (k + 1) X.A) (hg : Gl X x) (hm : X.mg x = some (.ref C)) (hb : Binds X.K fd ps ds) (hd : Vals dvs ds) (hx : Passes CX X E)
    (ha : PA X (e :: es) t) (hdb : (x == ("__debug__" : Str)) = false := by decide) (he : starEach (e :: es) X.env = (false, eval e X.env) :: starEach es X.env := by rfl) (hpl : (backTo pos (starEach es X.env)).any (·.1) = false := by rfl) :
    PE X (.Call (.Name x p) (e :: es) [] pos) (tMake C sp dvs E t) := by
  intro pins s σ H Q I h
  refine wpAny_Call_Name_kw (ld_glob I hg hm ?_ hdb)
  refine PySem.W.callWith_K (h₀ := X.base) I.ok.mod.kin M.kp (thn (ha pos pins s σ H _ I h) fun us s1 ⟨vs, H1, I1, r, q⟩ => ⟨I1.kIn, ?_⟩) he hpl
  exact run_make M F hr hb hd hx I1 r q
end

/-! ### keywords -/
section
variable {X : Cx} {CX : CXT} {k : Nat} {f C : Addr} {fd : FuncData} {ps ks : List Str} {sp : Sp} {E : XK} {x m : Str} {p pos apos kpos : Pos} {e o : Expr} {es : List Expr} {kws : List Keyword} {te ta : TE} {t tk : TA} {nm : Option Str}
structure KBinds (K : PySem.W.Frag) (fd : FuncData) (ps ks : List Str) (g : List Value → List Value → List Value) (gV : List V → List V → List V) : Prop where
  to : ∀ (s : Shared) (us ws : List Value), K.In s.heap → (g us ws).length = ps.length → BindsTo s fd ⟨us, ks.zip ws⟩ (ps.zip (g us ws))
  rel : ∀ {vs : List V} {us : List Value} {zs : List V} {ws : List Value}, Vals vs us → Vals zs ws → Vals (gV vs zs) (g us ws)
variable {g : List Value → List Value → List Value} {gV : List V → List V → List V}
end

/-! ### a def's body keeps its promise -/
structure FnScope (N P : List Str) (sc : Scope) : Prop where
  kind : sc.kind = .function
  co : sc.isCoroutine = false
  gen : sc.isGenerator = false
  nd : N.Nodup
  pre : N.take P.length = P
  par : ∀ x ∈ P, sc.names.lookup x = some .local ∨ sc.names.lookup x = some .cell
  nofree : ∀ y ∈ sc.names, y.2 ≠ .free

theorem bindL_out {kindOf : Str → Option NameKind} {x : Str} : ∀ {binds : List (Str × Value)} {m : Str → Option Value}, (∀ v, (x, v) ∉ binds) → bindL kindOf binds m x = m x
  | [], _, _ => rfl
  | (n, v) :: r, m, h => by
    unfold bindL
    rw [bindL_out fun w hw => h w (List.mem_cons_of_mem _ hw)]
    split
    · have : x ≠ n := by rintro rfl; exact h v List.mem_cons_self
      simp [this]
    · rfl
theorem bindC_out {kindOf : Str → Option NameKind} {x : Str} : ∀ {binds : List (Str × Value)} {m : Str → Option Value}, (∀ v, (x, v) ∉ binds) → bindC kindOf binds m x = m x
  | [], _, _ => rfl
  | (n, v) :: r, m, h => by
    unfold bindC
    rw [bindC_out fun w hw => h w (List.mem_cons_of_mem _ hw)]
    split
    · rfl
    · have : x ≠ n := by rintro rfl; exact h v List.mem_cons_self
      simp [this]
theorem bindL_get {kindOf : Str → Option NameKind} {x : Str} {v : Value} : ∀ {P : List Str} {vs : List Value} {i : Nat} {m : Str → Option Value}, P.Nodup → P[i]? = some x → vs[i]? = some v → kindOf x = some .local →
    bindL kindOf (P.zip vs) m x = some v
  | [], _, _, _, _, h, _, _ => by simp at h
  | _ :: _, [], _, _, _, _, h, _ => by simp at h
  | p :: P, w :: vs, 0, m, nd, h1, h2, hk => by
    simp at h1 h2; subst h1; subst h2
    show bindL kindOf ((p, w) :: P.zip vs) m p = _
    unfold bindL
    rw [bindL_out fun v hv => (List.nodup_cons.mp nd).1 (List.of_mem_zip hv).1, if_pos hk]
    simp
  | p :: P, w :: vs, i + 1, m, nd, h1, h2, hk => by
    show bindL kindOf ((p, w) :: P.zip vs) m x = _
    unfold bindL
    exact bindL_get (i := i) (List.nodup_cons.mp nd).2 (by simpa using h1) (by simpa using h2) hk
theorem bindC_get {kindOf : Str → Option NameKind} {x : Str} {v : Value} : ∀ {P : List Str} {vs : List Value} {i : Nat} {m : Str → Option Value}, P.Nodup → P[i]? = some x → vs[i]? = some v → kindOf x ≠ some .local →
    bindC kindOf (P.zip vs) m x = some v
  | [], _, _, _, _, h, _, _ => by simp at h
  | _ :: _, [], _, _, _, _, h, _ => by simp at h
  | p :: P, w :: vs, 0, m, nd, h1, h2, hk => by
    simp at h1 h2; subst h1; subst h2
    show bindC kindOf ((p, w) :: P.zip vs) m p = _
    unfold bindC
    rw [bindC_out fun v hv => (List.nodup_cons.mp nd).1 (List.of_mem_zip hv).1, if_neg hk]
    simp
  | p :: P, w :: vs, i + 1, m, nd, h1, h2, hk => by
    show bindC kindOf ((p, w) :: P.zip vs) m x = _
    unfold bindC
    exact bindC_get (i := i) (List.nodup_cons.mp nd).2 (by simpa using h1) (by simpa using h2) hk

def start (N : List Str) (vs : List V) : St := vs.map some ++ List.replicate (N.length - vs.length) none

def cxOf (CX : CXT) (P : Program) (w : World) (K : PySem.W.Frag) (mg : Str → Option Value) (base : Heap) (N : List Str) (qual : Str) (scope : Scope) (f : Addr) (cd : Value) (A : Around) (outer : List Env) (s : Shared) (H : Hp) (E : XK) : Cx where
  prog := P
  w := w
  K := K
  mg := mg
  base := base
  A := A.deeper (envOfC qual scope s.heap.objs.size f cd)
  N := N
  s₀ := s
  H₀ := H
  env := envOfC qual scope s.heap.objs.size f cd
  outer := outer
  stack := envOfC qual scope s.heap.objs.size f cd :: outer
  ex := []
  calm := true
  fn := fun _ => true
  pn := []
  xe := fun e s' => wpAny (model P w) (A.deeper (envOfC qual scope s.heap.objs.size f cd)) (leaving (envOfC qual scope s.heap.objs.size f cd) e) (fun _ s'' => CX outer H s E e s'') (fun e' s'' => CX outer H s E e' s'') s'

theorem cell_has {sc : Scope} {n : Nat} {x : Str} (h : sc.names.lookup x = some .cell) : ∃ c, (cellsFrom n sc.names []).lookup x = some c := by
  have q := PySem.W.cellsFrom_some sc.names n [] (.inl h)
  exact Option.isSome_iff_exists.mp q

theorem inv_start {CX : CXT} {P : Program} {w : World} {K : PySem.W.Frag} {mg : Str → Option Value} {base : Heap} {N ps : List Str} {qual : Str} {scope : Scope} {f : Addr} {cd : Value} {A : Around} {outer : List Env} {s s1 : Shared} {H : Hp} {E : XK} {us : List Value} {vs : List V}
    (S : FnScope N ps scope) (hd : A.handled = none) (e0 : Env0 P w K mg base A outer s H) (hl : vs.length = ps.length) (r : Vals vs us)
    (x : InCallC s s.heap.objs.size (bindL (envOfC qual scope s.heap.objs.size f cd).kindOf (ps.zip us) fun _ => none) (cellsFrom (s.heap.objs.size + 1) scope.names []) (bindC (envOfC qual scope s.heap.objs.size f cd).kindOf (ps.zip us) fun _ => none) s1) :
    Inv (cxOf CX P w K mg base N qual scope f cd A outer s H E) [] (start N vs) H s1 := by
  have hpl : ps.length ≤ N.length := by have := congrArg List.length S.pre; rw [List.length_take] at this; omega
  obtain ⟨h1, tk, rfl, hk⟩ := x.done
  have noA : ∀ b : Addr, b ∉ (cxOf CX P w K mg base N qual scope f cd A outer s H E).ex := fun b z => absurd (show b ∈ ([] : List Addr) from z) (by simp)
  refine ⟨⟨e0.mod, S.kind, rfl, rfl, Nat.le_refl _, fun y z c h1 h2 => ?_, fun y hy => ?_, fun y c _ h => ?_, fun _ => hd, Around.frames_deeper e0.frames, .inr ⟨rfl, rfl⟩, fun b z => absurd z (noA b), e0.bs, e0.bsz, fun b _ _ => noA b, fun b z => absurd z (noA b), e0.funs, e0.frf⟩,
    rfl, e0.bare, Un.kept hk, ⟨_, x.toInCall.ns, fun i y v h1 h2 h3 => ?_⟩, fun y c h => ⟨_, x.cell y c h⟩, e0.hok.fresh (Nat.le_refl _), fun y c h => ?_, fun p hp => absurd (show p ∈ ([] : List (Addr × Obj)) from hp) (by simp), e0.hok.kept hk, ?_⟩
  · exact name_of_addr x.apart (PySem.mem_of_lookup h1) (PySem.mem_of_lookup h2)
  · have hy : scope.names.lookup y = some .cell ∨ scope.names.lookup y = some .free := hy
    rcases hy with hy | hy
    · exact cell_has hy
    · exact absurd rfl (S.nofree _ (PySem.mem_of_lookup hy))
  · exact Nat.le_of_lt (x.above y c (PySem.mem_of_lookup h))
  · have hi : i < vs.length := by
      unfold start at h2
      by_cases hi : i < vs.length
      · exact hi
      · rw [List.getElem?_append_right (by simpa using hi)] at h2
        rw [List.getElem?_replicate] at h2
        split at h2 <;> cases h2
    have ha : vs[i]? = some v := by
      unfold start at h2
      rw [List.getElem?_append_left (by simpa using hi), List.getElem?_map] at h2
      cases e : vs[i]? with
      | none => rw [e] at h2; cases h2
      | some a => rw [e] at h2; cases h2; rfl
    obtain ⟨u, hu, rv⟩ := r.get ha
    have hp : ps[i]? = some y := by
      rw [← S.pre, List.getElem?_take_of_lt (by omega)]; exact h1
    have ndP : ps.Nodup := by rw [← S.pre]; exact S.nd.sublist (List.take_sublist _ _)
    refine ⟨u, rv, ?_⟩
    rcases S.par y (List.mem_of_getElem? hp) with k | k
    · exact .inl ⟨k, bindL_get ndP hp hu k⟩
    · obtain ⟨c, e⟩ := cell_has (n := s.heap.objs.size + 1) k
      refine .inr ⟨.inl k, c, e, ?_⟩
      have q := x.cell y c e
      rw [bindC_get ndP hp hu (by show scope.names.lookup y ≠ _; rw [k]; decide)] at q
      exact q
  · exact e0.hok.fresh (Nat.le_of_lt (x.above y c (PySem.mem_of_lookup h)))
  · unfold start
    show _ = N.length
    rw [List.length_append, List.length_map, List.length_replicate]
    omega

theorem fn_of {CX : CXT} {P : Program} {w : World} {K : PySem.W.Frag} {mg : Str → Option Value} {base : Heap} {k : Nat} {f : Addr} {name qual : Str} {params : Arguments} {body : List Stmt} {scope : Scope} {dV kV doc pm cdv ct oc : Value} {an od : Option Addr}
    {osl : Array (Option Value)} {N ps : List Str} {sp : Sp} (lk : K.lookup f = some ⟨oc, od, .func (PySem.W.fnOf name qual params body scope dV kV doc pm an cdv ct), osl⟩) (hcd : PySem.W.codeIn K cdv qual = true) (S : FnScope N ps scope)
    (len : ∀ vs H Q E, sp vs H Q E → vs.length = ps.length)
    (hbody : ∀ (A : Around) (outer : List Env) (s : Shared) (H : Hp) (vs : List V) (Q : VK) (E : XK), Room k (A.deeper (envOfC qual scope s.heap.objs.size f cdv)) → sp vs H Q E →
      ∃ t, PSs (cxOf CX P w K mg base N qual scope f cdv A outer s H E) body t ∧ t { nx := fun _ H' => Q .non H', rt := Q } (start N vs) H) :
    FnOk P w K mg base CX (k + 1) f (PySem.W.fnOf name qual params body scope dV kV doc pm an cdv ct) ps sp := by
  refine ⟨len, fun A outer s H args us vs Q E hr e0 hb r hsp => ?_⟩
  have hl := len _ _ _ _ hsp
  have KX : K.In s.heap := e0.mod.kin.keeps fun b o e => (e0.bs b o e).1
  have lim : s.heap.NoLimit := e0.mod.nolimit.keeps fun b o e => (e0.bs b o e).1
  have hkind : ∀ y ∈ ps.zip us, scope.names.lookup y.1 = some .local ∨ (scope.names.lookup y.1 = some .cell ∧ ((cellsFrom (s.heap.objs.size + 1) scope.names []).lookup y.1).isSome = true) := fun ⟨n, v⟩ hy => by
    rcases S.par n (List.of_mem_zip hy).1 with q | q
    · exact .inl q
    · exact .inr ⟨q, PySem.W.cellsFrom_some _ _ _ (.inl q)⟩
  refine codeAny_call_function hr.depth (KX _ _ lk) rfl S.co S.gen rfl (PySem.W.codeRec_of KX hcd) (hb _ _ _ _ ?_)
  refine wpAny_newFunctionEnv_cells S.kind hkind fun env he s1 x => ?_
  subst he
  refine ⟨lim.keeps x.toInCall.keep, codeAny_func ?_⟩
  obtain ⟨t, ht, hq⟩ := hbody A outer s H vs Q E (hr.deeper _) hsp
  have I : Inv (cxOf CX P w K mg base N qual scope f cdv A outer s H E) [] (start N vs) H s1 := inv_start S hr.hd e0 hl r x
  refine wpAny_mono (ht [] s1 (start N vs) H _ I hq) (fun fl s' hs => ?_) fun e s' hs => hs
  have fin : ∀ {σ' : St} {H' : Hp} {v : V} {u : Value}, Inv (cxOf CX P w K mg base N qual scope f cdv A outer s H E) [] σ' H' s' → RelV v u → Q v H' → CE outer P w H s Q u s' :=
    fun {σ' H' v u} J rv q => ⟨v, H', J.os, J.bare, J.base, J.hok, rv, q⟩
  cases fl with
  | ret u =>
    obtain ⟨v, σ', H', J, rv, q⟩ := hs
    exact fin J rv q
  | next =>
    obtain ⟨σ', H', J, q⟩ := hs
    exact fin (v := V.non) (u := Value.none) J rfl q
  | brk =>
    obtain ⟨_, _, _, q⟩ := hs
    exact False.elim q
  | cont =>
    obtain ⟨_, _, _, q⟩ := hs
    exact False.elim q
end L2

namespace L2
open PySem PySem.Spec PyProof.Rows
section
variable {X : Cx} {x : Str} {p pos : Pos} {e : Expr} {es : List Expr} {t : TA} {id T : String} {r : List V → Hp → VK → Prop}

def tCB (r : List V → Hp → VK → Prop) (t : TA) : TE := fun σ H Q => t σ H fun vs H1 => r vs H1 Q
theorem pe_callB (hc : CallR X (.builtin id) r) (hg : Gl X x) (hm : X.mg x = none) (hv : bootBuiltins x = some (.builtin id)) (ha : PA X (e :: es) t) (hn : x ≠ "__name__" := by decide) (hdb : (x == ("__debug__" : Str)) = false := by decide)
    (he : starEach (e :: es) X.env = (false, eval e X.env) :: starEach es X.env := by rfl) (hpl : (backTo pos (starEach es X.env)).any (·.1) = false := by rfl) : PE X (.Call (.Name x p) (e :: es) [] pos) (tCB r t) := by
  intro pins s σ H Q I h
  refine wpAny_Call_Name_kw (ld_blt I hg hm hv ?_ hn hdb)
  exact PyProof.Rows.callWith_builtin1 (thn (ha pos pins s σ H _ I h) fun us s1 ⟨vs, H1, I1, r1, q1⟩ => hc pins s1 σ H1 vs us Q I1 r1 q1) he hpl
end
end L2

namespace HT
open PySem PyProof.Rows

def lexLt : List Int → List Int → Bool
  | [], [] => false
  | [], _ :: _ => true
  | _ :: _, [] => false
  | x :: xs, y :: ys => if x = y then lexLt xs ys else decide (x < y)
theorem lexLt_cons (x y : Int) (xs ys : List Int) : lexLt (x :: xs) (y :: ys) = if x = y then lexLt xs ys else decide (x < y) := rfl
theorem lexLt_nil_nil : lexLt [] [] = false := rfl
theorem lexLt_nil_cons (y : Int) (ys : List Int) : lexLt [] (y :: ys) = true := rfl
theorem lexLt_cons_nil (x : Int) (xs : List Int) : lexLt (x :: xs) [] = false := rfl

theorem eqAt_int (A : Around) (s : Shared) (a : Int) (t : Tok) (c : Int) (u : Tok) : ∃ e, SeqAt.EqAt A s (.int a t) (.int c u) e ∧ (e = true ↔ a = c) :=
  ⟨(a == c), SeqAt.EqAt.int_int a t c u, by simp⟩
theorem rcLt_int (A : Around) (s : Shared) (a : Int) (t : Tok) (c : Int) (u : Tok) (prog : Program) (w : World) (E : Value → Shared → Prop) (Q : Value → Shared → Prop) (h : Q (.bool (decide (a < c))) s) :
    wpAny (model prog w) A (richCompare .Lt (.int a t) (.int c u)) Q E s :=
  (PyProof.Rows.lt_int h : wpAny (model prog w) A (compareOp .Lt (.int a t) (.int c u)) Q E s)

section
open PySem.SeqAt
open PySem.AutoSeq1 (wpAny_loadPart')
open PySem.MeetsSeq PySem.MeetsSeq2 PySem.MeetsSeq3

theorem tuple_lt_ints (l b : Addr) (items items2 : Array Value) (n n2 : Nat) (dd dd2 : Option Addr) (sl sl2 : Array (Option Value)) (ns ms : List Int) (hi : IntsAre items.toList ns) (hj : IntsAre items2.toList ms) :
    Meets (Builtin.«tuple.__lt__» ⟨[.ref l, .ref b], []⟩)
      (fun _ R s => s.heap.get? l = some { cls := .type "tuple", dict := dd, data := .seq items n, slots := sl } ∧ s.heap.get? b = some { cls := .type "tuple", dict := dd2, data := .seq items2 n2, slots := sl2 } ∧
        R (.ok (.ret (.bool (lexLt ns ms)))) s) :=
  .of_wp fun prog w A R s h => by
    obtain ⟨hp, g, d, tk, os⟩ := s; obtain ⟨hl, hb, h⟩ := h
    have f2 := AutoSeq1.sub_tuple_tuple
    have z1 : items.size = ns.length := by rw [← hi.length]; simp
    have z2 : items2.size = ms.length := by rw [← hj.length]; simp
    wp_walk using wpAny_loadPart' hl, wpAny_loadPart' hb, wpAny_forIn_list _ (fun rest b s' => b.1 = none ∧ s' = ⟨hp, g, d, tk, os⟩ ∧ ∃ (vs ws : List Value) (ns' ms' : List Int), rest = vs.zip ws ∧
      IntsAre vs ns' ∧ IntsAre ws ms' ∧ ns'.length + items2.size = ms'.length + items.size ∧ R (.ok (.ret (.bool (lexLt ns' ms')))) ⟨hp, g, d, tk, os⟩) _
    case turn =>
      rintro ⟨y, x⟩ rest b s' ⟨hb', rfl, vs, ws, ns', ms', hz, hvi, hwi, hlen, hR⟩
      cases hvi with
      | nil => rw [List.zip_nil_left] at hz; cases hz
      | cons a t hvi' =>
        cases hwi with
        | nil => rw [List.zip_nil_right] at hz; cases hz
        | cons c u hwi' =>
          rw [List.zip_cons_cons] at hz
          injection hz with hyx hrest
          injection hyx with hy hx
          subst hy hx
          rw [lexLt_cons] at hR
          simp only [List.length_cons] at hlen
          obtain ⟨e, he, hiff⟩ := eqAt_int A.in1 ⟨hp, g, d, tk, os⟩ a t c u
          refine wpAny_bind (he prog w _ _ ?_)
          cases e with
          | true =>
            rw [if_pos (hiff.mp rfl)] at hR
            wp_walk
            exact ⟨rfl, rfl, _, _, _, _, hrest, hvi', hwi', by omega, hR⟩
          | false =>
            rw [if_neg (fun q => absurd (hiff.mpr q) Bool.false_ne_true)] at hR
            have hri := rcLt_int A.in1 ⟨hp, g, d, tk, os⟩ a t c u prog w
            wp_walk using hri
            exact ⟨_, rfl, by simpa using hR⟩
    case fin =>
      rintro ⟨b1, b2⟩ s' ⟨hb', rfl, vs, ws, ns', ms', hz, hvi, hwi, hlen, hR⟩
      simp only at hb'
      subst hb'
      have hv : lexLt ns' ms' = decide (items.size < items2.size) := by
        cases hvi with
        | nil =>
          cases hwi with
          | nil =>
            simp only [List.length_nil] at hlen
            rw [lexLt_nil_nil]
            exact (decide_eq_false (by omega)).symm
          | cons c u hw =>
            simp only [List.length_nil, List.length_cons] at hlen
            rw [lexLt_nil_cons]
            exact (decide_eq_true (by omega)).symm
        | cons a t hv =>
          cases hwi with
          | nil =>
            simp only [List.length_nil, List.length_cons] at hlen
            rw [lexLt_cons_nil]
            exact (decide_eq_false (by omega)).symm
          | cons c u hw =>
            rw [List.zip_cons_cons] at hz
            cases hz
      rw [hv] at hR
      wp_walk
      exact ⟨_, rfl, by simpa [Builtin.Tuple.tupleCompareSizes] using hR⟩
    case h =>
      exact ⟨rfl, rfl, items.toList, items2.toList, ns, ms, rfl, hi, hj, by omega, h⟩
end

section
variable {prog : Program} {w : World} {A : Around} {E : Value → Shared → Prop} {s : Shared}

theorem lt_tupInts {l b : Addr} {items items2 : Array Value} {ns ms : List Int} {Q : Value → Shared → Prop} (hl : IsTup s.heap l items) (hb : IsTup s.heap b items2) (hi : IntsAre items.toList ns) (hj : IntsAre items2.toList ms)
    (hu : A.units < cLine) (h : Q (.bool (lexLt ns ms)) s) : wpAny (model prog w) A (compareOp .Lt (.ref l) (.ref b)) Q E s := by
  obtain ⟨⟨cls, dd, data, sl⟩, ho, hc, n, hd⟩ := id hl
  obtain ⟨⟨cls2, dd2, data2, sl2⟩, ho2, hc2, n2, hd2⟩ := id hb
  simp only at hc hd hc2 hd2
  subst hc hd hc2 hd2
  exact richCompare_meets_room (op := .Lt) ⟨_, ho, rfl⟩ ⟨_, ho2, rfl⟩ PySem.F.slot_tuple_lt PySem.F.entry_tuple_lt (PySem.F.args_tuple_lt_2 _ _) (tuple_lt_ints l b items items2 n n2 dd dd2 sl sl2 ns ms hi hj)
    ⟨ho, ho2, show Value.bool (lexLt ns ms) ≠ Value.notImplemented ∧ Q (.bool (lexLt ns ms)) s from ⟨(fun x => nomatch x), h⟩⟩ hu

/-! ### t[a:b], not the whole -/
def sIx (n d : Nat) : Option Int → Nat
  | none => d
  | some v => if v < 0 then (v + (n : Int)).toNat else min v.toNat n
end
end HT

namespace L2
open PySem PySem.Spec PyProof.Rows

/-! ### the parts of a slice -/
abbrev TO := St → Hp → (Option Int → Hp → Prop) → Prop
theorem intsAre_of {ns : List Int} : ∀ {us : List Value}, Vals (ns.map V.int) us → IntsAre us ns := by
  induction ns with
  | nil => intro us r; rw [List.map_nil] at r; cases r; exact .nil
  | cons n ns ih =>
    intro us r
    rw [List.map_cons] at r
    cases r with
    | cons r1 r2 =>
      obtain ⟨t, e⟩ := r1
      subst e
      exact .cons n t (ih r2)

section
variable {X : Cx} {e : Expr} {te : TE} {lo hi : Option Expr} {tl th : TO} {pos p2 : Pos}

def SlR (X : Cx) (r : V → Option Int → Option Int → Hp → VK → Prop) : Prop :=
  ∀ (pins : List (Addr × Obj)) (s : Shared) (σ : St) (H : Hp) (x : V) (v vl vu : Value) (lo hi : Option Int) (sl : Addr) (Q : VK), Inv X pins σ H s → RelV x v → s.heap.IsSliceOf sl vl vu .none → IsPart vl lo → IsPart vu hi → r x lo hi H Q →
    ∃ T id, typeLookup (.type T) "__getitem__" = pure (some (.builtin id)) ∧ s.TypeIs v T ∧ wpAny (model X.prog X.w) X.A (getItem v (.ref sl)) (EP X pins σ Q) X.xe s
theorem SlR.or {r r' : V → Option Int → Option Int → Hp → VK → Prop} (h : SlR X r) (h' : SlR X r') : SlR X (fun x lo hi H Q => r x lo hi H Q ∨ r' x lo hi H Q) := by
  intro pins s σ H x v vl vu lo hi sl Q I rx hs pl pu q
  rcases q with q | q
  · exact h pins s σ H x v vl vu lo hi sl Q I rx hs pl pu q
  · exact h' pins s σ H x v vl vu lo hi sl Q I rx hs pl pu q
/-! ### t < u, t + u -/
def rLtT (K : PySem.W.Frag) : R2 := fun x y H Q => ∃ a b ns ms, x = .ref a ∧ y = .ref b ∧ SqT K H a (ns.map V.int) ∧ SqT K H b (ms.map V.int) ∧ Q (.bl (HT.lexLt ns ms)) H
theorem op_ltT (hu : X.A.units < cLine) : OpR X (compareOp .Lt) (rLtT X.K) := by
  intro pins s σ H x y v u Q I rx ry h
  obtain ⟨a, b, ns, ms, rfl, rfl, ha, hb, q⟩ := h
  cases rx
  cases ry
  obtain ⟨its, r1, p1, _⟩ := I.tuple ha
  obtain ⟨its2, r2, p2, _⟩ := I.tuple hb
  have i1 : IntsAre its.toArray.toList ns := intsAre_of r1
  have i2 : IntsAre its2.toArray.toList ms := intsAre_of r2
  exact HT.lt_tupInts p1 p2 i1 i2 hu ⟨.bl (HT.lexLt ns ms), H, I, rfl, q⟩
end
end L2

namespace L2
open PySem PySem.Spec PyProof.Rows

/-! ### places -/
def ixN (n : Nat) (i : Int) : Option Nat := if 0 ≤ i then (if i < n then some i.toNat else none) else if -(n : Int) ≤ i then some (i + n).toNat else none
def atI {α : Type} (xs : List α) (i : Int) : Option α := (ixN xs.length i).bind fun j => xs[j]?
theorem ixN_seq {n : Nat} {i : Int} {j : Nat} (h : ixN n i = some j) : seqIndex? i n = some j ∧ j < n ∧ -(n : Int) ≤ i ∧ i < n := by
  unfold ixN at h
  by_cases h0 : 0 ≤ i
  · rw [if_pos h0] at h
    by_cases h1 : i < n
    · rw [if_pos h1] at h
      have e : i.toNat = j := Option.some.inj h
      exact ⟨by rw [seqIndex_of h0 h1, e], by omega, by omega, h1⟩
    · rw [if_neg h1] at h; cases h
  · rw [if_neg h0] at h
    by_cases h1 : -(n : Int) ≤ i
    · rw [if_pos h1] at h
      have e : (i + n).toNat = j := Option.some.inj h
      exact ⟨by rw [seqIndex_neg (by omega) h1, e], by omega, h1, by omega⟩
    · rw [if_neg h1] at h; cases h
theorem atI_get {α : Type} {xs : List α} {i : Int} {v : α} (h : atI xs i = some v) : ∃ j, seqIndex? i xs.length = some j ∧ xs[j]? = some v ∧ j < xs.length ∧ -(xs.length : Int) ≤ i ∧ i < xs.length := by
  unfold atI at h
  cases e : ixN xs.length i with
  | none => rw [e] at h; cases h
  | some j =>
    rw [e] at h
    obtain ⟨h1, h2, h3, h4⟩ := ixN_seq e
    exact ⟨j, h1, h, h2, h3, h4⟩
theorem atI_nat {α : Type} {xs : List α} {j : Nat} {v : α} (h : xs[j]? = some v) : atI xs (j : Int) = some v := by
  have hj : j < xs.length := (List.getElem?_eq_some_iff.mp h).1
  have e : ixN xs.length (j : Int) = some j := by
    unfold ixN
    rw [if_pos (by omega), if_pos (by omega)]; simp
  unfold atI; rw [e]; exact h
/-! ### what may be subscripted -/
def PlainIx (b : Expr) : Prop := ∀ o i, subscripted b false o i = operate [o, i] (getItem o i)
def IxR (X : Cx) (r : R2) : Prop :=
  ∀ (value slice : Expr) (pins : List (Addr × Obj)) (s : Shared) (σ : St) (H : Hp) (x y : V) (v u : Value) (Q : VK), Inv X pins σ H s → RelV x v → RelV y u → r x y H Q →
    subscripted slice false v u = operate [v, u] (getItem v u) → wpAny (model X.prog X.w) X.A (subscriptTail value slice v u) (EP X pins σ Q) X.xe s
def MtR (X : Cx) (id : String) (r : V → List V → Hp → VK → Prop) : Prop :=
  ∀ (pins : List (Addr × Obj)) (s : Shared) (σ : St) (H : Hp) (x : V) (xs : List V) (v : Value) (us : List Value) (Q : VK), Inv X pins σ H s → RelV x v → Vals xs us → r x xs H Q →
    wpAny (model X.prog X.w) X.A (call (.builtin id) (v :: us)) (EP X pins σ Q) X.xe s
section
variable {X : Cx} {a b : Expr} {ta tb : TE} {pos : Pos}
theorem IxR.or {r r' : R2} (h : IxR X r) (h' : IxR X r') : IxR X (fun x y H Q => r x y H Q ∨ r' x y H Q) := by
  intro value slice pins s σ H x y v u Q I rx ry q hs
  rcases q with q | q
  · exact h value slice pins s σ H x y v u Q I rx ry q hs
  · exact h' value slice pins s σ H x y v u Q I rx ry q hs
theorem MtR.or {id : String} {r r' : V → List V → Hp → VK → Prop} (h : MtR X id r) (h' : MtR X id r') : MtR X id (fun x xs H Q => r x xs H Q ∨ r' x xs H Q) := by
  intro pins s σ H x xs v us Q I rx rs q
  rcases q with q | q
  · exact h pins s σ H x xs v us Q I rx rs q
  · exact h' pins s σ H x xs v us Q I rx rs q
theorem pe_ix {r : R2} (hr : IxR X r) (ha : PE X a ta) (hb : PE X b tb) (hs : PlainIx b) : PE X (.Subscript a b pos) (tOp r ta tb) := by
  intro pins s σ H Q I h
  exact Subscript_ (binT ha hb I h fun v u s2 x y H2 I2 rx ry q => hr a b pins s2 σ H2 x y v u Q I2 rx ry q (hs _ _))

def rIxL (K : PySem.W.Frag) : R2 := fun x y H Q => ∃ p xs i v, x = .ref p ∧ y = .int i ∧ SqL K H p xs ∧ atI xs i = some v ∧ Q v H
def rIxT (K : PySem.W.Frag) : R2 := fun x y H Q => ∃ p xs i v, x = .ref p ∧ y = .int i ∧ SqT K H p xs ∧ atI xs i = some v ∧ Q v H
def rIxS : R2 := fun x y H Q => ∃ z i c, x = .str z ∧ y = .int i ∧ z.length ≤ sizeLine ∧ atI z.cps.toList i = some c ∧ Q (.str ⟨#[c]⟩) H
theorem ix_list : IxR X (rIxL X.K) := by
  intro value slice pins s σ H x y v u Q I rx ry h hs
  obtain ⟨p, xs, i, z, rfl, rfl, hq, he, q⟩ := h
  cases rx
  obtain ⟨t, rfl⟩ := ry
  obtain ⟨its, r, pl, hz⟩ := I.list hq
  obtain ⟨j, h1, h2, h3, h4, h5⟩ := atI_get he
  obtain ⟨w, ew, rw'⟩ := r.get h2
  have hl := r.length
  have hn := line63
  have fin : EP X pins σ Q w s := ⟨z, H, I, rw', q⟩
  by_cases h0 : 0 ≤ i
  · have hj : i.toNat = j := by
      rw [seqIndex_of h0 h5] at h1
      exact Option.some.inj h1
    exact item_listR pl.isList h0 (by omega) (by rw [hj]; simpa using ew) fin hs
  · have hj : (i + (its.toArray.size : Int)).toNat = j := by
      rw [seqIndex_neg (by omega) h4] at h1
      rw [List.size_toArray, ← hl]
      exact Option.some.inj h1
    exact subscriptTail_builtinR (x := w) pl.isList.typeIs slot_list_getitem.lookup
      (wpAny_getItem_list_neg (Q := fun r s' => r = w ∧ EP X pins σ Q r s') pl.isList (by omega) (by rw [List.size_toArray] <;> omega) (by omega) (by rw [hj]; simpa using ew) ⟨rfl, fin⟩) hs
theorem ix_tup : IxR X (rIxT X.K) := by
  intro value slice pins s σ H x y v u Q I rx ry h hs
  obtain ⟨p, xs, i, z, rfl, rfl, hq, he, q⟩ := h
  cases rx
  obtain ⟨t, rfl⟩ := ry
  obtain ⟨its, r, pl, hz⟩ := I.tuple hq
  obtain ⟨j, h1, h2, h3, h4, h5⟩ := atI_get he
  obtain ⟨w, ew, rw'⟩ := r.get h2
  have hl := r.length
  have hn := line63
  have fin : EP X pins σ Q w s := ⟨z, H, I, rw', q⟩
  exact subscriptTail_builtinR (x := w) pl.typeIs slot_tuple_getitem.lookup
    (getItem_tuple (j := j) (Q := fun r s' => r = w ∧ EP X pins σ Q r s') pl (by omega) (by omega) (by rw [List.size_toArray, ← hl]; exact h1) (by simpa using ew) ⟨rfl, fin⟩) hs
theorem ix_str : IxR X rIxS := by
  intro value slice pins s σ H x y v u Q I rx ry h hs
  obtain ⟨z, i, c, rfl, rfl, hz, he, q⟩ := h
  obtain ⟨t, rfl⟩ := rx
  obtain ⟨t', rfl⟩ := ry
  obtain ⟨j, h1, h2, h3, h4, h5⟩ := atI_get he
  have hl : z.cps.toList.length = z.length := by simp [Str.length]
  rw [hl] at h1 h4 h5
  have hn := line63
  exact tail_any (typeIs_str s z t) slot_str_getitem.lookup (getItem_str (c := c) (by
    have e1 : decide (i < -(2 ^ 63 : Int)) = false := decide_eq_false (by omega)
    have e2 : decide (i ≥ 2 ^ 63) = false := decide_eq_false (by omega)
    rw [e1, e2, Bool.or_false]) (by rw [h1]; simpa using h2) ⟨.str ⟨#[c]⟩, H, I.tok _, ⟨_, rfl⟩, q⟩) hs
def rIx (K : PySem.W.Frag) : R2 := fun x y H Q => rIxL K x y H Q ∨ rIxT K x y H Q ∨ rIxS x y H Q
theorem ix_seq : IxR X (rIx X.K) := ix_list.or (ix_tup.or ix_str)

/-! ### xs[i] = v, any sign -/
theorem Inv.lst {pins : List (Addr × Obj)} {σ : St} {H : Hp} {s : Shared} {p : Addr} {xs : List V} (I : Inv X pins σ H s) (h : H p = some (.lst xs)) :
    ∃ (its : List Value) (n : Nat), Vals xs its ∧ s.heap.get? p = some { cls := .type "list", data := .seq its.toArray n } ∧ xs.length ≤ sizeLine := by
  obtain ⟨z, its, n, r, e⟩ := I.hok p _ h
  exact ⟨its, n, r, e, z⟩
/-! ### slices -/
/-! ### in, not in: flat items -/
def flatV : V → Bool
  | .non => true
  | .bl _ => true
  | .int _ => true
  | .str _ => true
  | _ => false
def eqV : V → V → Bool
  | .non, .non => true
  | .bl a, .bl b => a == b
  | .bl a, .int b => (if a then 1 else 0) == b
  | .int a, .bl b => a == (if b then 1 else 0)
  | .int a, .int b => a == b
  | .str a, .str b => a == b
  | _, _ => false
theorem eqAt_V {A : Around} {s : Shared} {y x : V} {u v : Value} (ry : RelV y u) (rx : RelV x v) (fy : flatV y = true) (fx : flatV x = true) : SeqAt.EqAt A s u v (eqV y x) := by
  cases y with
  | non =>
    cases ry
    cases x with
    | non => cases rx; exact SeqAt.EqAt.same _
    | bl b => cases rx; exact SeqAt.EqAt.none_bool b
    | int b => obtain ⟨t, rfl⟩ := rx; exact SeqAt.EqAt.none_int b t
    | str b => obtain ⟨t, rfl⟩ := rx; exact SeqAt.EqAt.none_str b t
    | _ => exact absurd (show false = true from fx) Bool.false_ne_true
  | bl a =>
    cases ry
    cases x with
    | non => cases rx; exact SeqAt.EqAt.bool_none a
    | bl b => cases rx; exact SeqAt.EqAt.bool_bool a b
    | int b => obtain ⟨t, rfl⟩ := rx; exact SeqAt.EqAt.bool_int a b t
    | str b => obtain ⟨t, rfl⟩ := rx; exact SeqAt.EqAt.bool_str a b t
    | _ => exact absurd (show false = true from fx) Bool.false_ne_true
  | int a =>
    obtain ⟨t', rfl⟩ := ry
    cases x with
    | non => cases rx; exact SeqAt.EqAt.int_none a t'
    | bl b => cases rx; exact SeqAt.EqAt.int_bool a t' b
    | int b => obtain ⟨t, rfl⟩ := rx; exact SeqAt.EqAt.int_int a t' b t
    | str b => obtain ⟨t, rfl⟩ := rx; exact SeqAt.EqAt.int_str a t' b t
    | _ => exact absurd (show false = true from fx) Bool.false_ne_true
  | str a =>
    obtain ⟨t', rfl⟩ := ry
    cases x with
    | non => cases rx; exact SeqAt.EqAt.str_none a t'
    | bl b => cases rx; exact SeqAt.EqAt.str_bool a t' b
    | int b => obtain ⟨t, rfl⟩ := rx; exact SeqAt.EqAt.str_int a t' b t
    | str b => obtain ⟨t, rfl⟩ := rx; exact SeqAt.EqAt.str_str a t' b t
    | _ => exact absurd (show false = true from fx) Bool.false_ne_true
  | _ => exact absurd (show false = true from fy) Bool.false_ne_true
def eqU (x : V) (u : Value) : Bool := match u with
  | .none => eqV .non x
  | .bool b => eqV (.bl b) x
  | .int i _ => eqV (.int i) x
  | .str z _ => eqV (.str z) x
  | _ => false
theorem eqU_of {x y : V} {u : Value} (r : RelV y u) (f : flatV y = true) : eqU x u = eqV y x := by
  cases y with
  | non => cases r; rfl
  | bl b => cases r; rfl
  | int i => obtain ⟨t, rfl⟩ := r; rfl
  | str z => obtain ⟨t, rfl⟩ := r; rfl
  | _ => exact absurd (show false = true from f) Bool.false_ne_true
theorem any_eqU {x : V} : ∀ {xs : List V} {us : List Value}, Vals xs us → xs.all flatV = true → us.any (eqU x) = xs.any fun y => eqV y x
  | _, _, .nil, _ => rfl
  | y :: xs, u :: us, .cons r t, f => by
    rw [List.all_cons, Bool.and_eq_true] at f
    rw [List.any_cons, List.any_cons, eqU_of r f.1, any_eqU t f.2]
theorem mem_eqAt {A : Around} {s : Shared} {x : V} {v : Value} (rx : RelV x v) (fx : flatV x = true) : ∀ {xs : List V} {us : List Value}, Vals xs us → xs.all flatV = true → ∀ u ∈ us, SeqAt.EqAt A s u v (eqU x u)
  | _, _, .nil, _ => fun u hu => by cases hu
  | y :: xs, u :: us, .cons r t, f => fun u' hu => by
    rw [List.all_cons, Bool.and_eq_true] at f
    rcases List.mem_cons.mp hu with rfl | hu
    · rw [eqU_of r f.1]; exact eqAt_V r rx f.1 fx
    · exact mem_eqAt rx fx t f.2 u' hu
def inV (x : V) (xs : List V) : Bool := xs.any fun y => eqV y x
def rIn (K : PySem.W.Frag) (neg : Bool) : R2 := fun x y H Q => ∃ p xs, y = .ref p ∧ (SqL K H p xs ∨ SqT K H p xs) ∧ flatV x = true ∧ xs.all flatV = true ∧ Q (.bl (if neg then !inV x xs else inV x xs)) H
theorem op_notIn_seq : OpR X (compareOp .NotIn) (rIn X.K true) := by
  intro pins s σ H x y v u Q I rx ry h
  obtain ⟨p, xs, rfl, hq, fx, fs, q⟩ := h
  cases ry
  rcases hq with hq | hq
  · obtain ⟨its, r, pl, hz⟩ := I.list hq
    refine SeqAt.notIn_listAt (eqU x) pl.isList (fun w hw => mem_eqAt rx fx r fs w (by simpa using hw)) ⟨.bl _, H, I, rfl, ?_⟩
    rw [show its.toArray.any (eqU x) = its.any (eqU x) by simp, any_eqU r fs]
    exact q
  · obtain ⟨its, r, pl, hz⟩ := I.tuple hq
    refine SeqAt.notIn_tupleAt (eqU x) pl (fun w hw => mem_eqAt rx fx r fs w (by simpa using hw)) ⟨.bl _, H, I, rfl, ?_⟩
    rw [show its.toArray.any (eqU x) = its.any (eqU x) by simp, any_eqU r fs]
    exact q
/-! ### len, list(x), tuple(x) of any list or tuple that is read -/
theorem call_len_seq : CallR X (.builtin "len") (fun xs H Q => ∃ p ys, xs = [.ref p] ∧ (SqL X.K H p ys ∨ SqT X.K H p ys) ∧ Q (.int ys.length) H) := by
  intro pins s σ H xs us Q I r h
  obtain ⟨p, ys, rfl, hq, q⟩ := h
  obtain ⟨u, rfl, rx⟩ := vals1 r
  cases rx
  have hn := line63
  rcases hq with hq | hq
  · obtain ⟨its, r', pl, hz⟩ := I.list hq
    have hlen := r'.length
    exact Calls.call_len_list pl.isList (by simp only [List.size_toArray] <;> omega) ⟨.int ys.length, H, I.tok _, ⟨s.toks + 1, by rw [List.size_toArray, hlen]⟩, q⟩
  · obtain ⟨its, r', pl, hz⟩ := I.tuple hq
    have hlen := r'.length
    exact len_tuple pl (by simp only [List.size_toArray] <;> omega) ⟨.int ys.length, H, I.tok _, ⟨s.toks + 1, by rw [List.size_toArray, hlen]⟩, q⟩
theorem CallR.or {f : Value} {r r' : List V → Hp → VK → Prop} (h : CallR X f r) (h' : CallR X f r') : CallR X f (fun xs H Q => r xs H Q ∨ r' xs H Q) := by
  intro pins s σ H xs us Q I rs q
  rcases q with q | q
  · exact h pins s σ H xs us Q I rs q
  · exact h' pins s σ H xs us Q I rs q
/-! ### the call of a builtin's method: o.m(..) -/
def tyV (K : PySem.W.Frag) (T : String) (x : V) (H : Hp) : Prop := match x with
  | .str _ => T = "str"
  | .int _ => T = "int"
  | .ref p => (T = "list" ∧ ∃ xs, SqL K H p xs) ∨ (T = "tuple" ∧ ∃ o, K.lookup p = some o ∧ o.cls = .type "tuple" ∧ o.dict = none) ∨
      (T = "dict" ∧ ((∃ kvs, H p = some (.dK kvs)) ∨ ∃ kvs, H p = some (.dT kvs))) ∨ (T = "set" ∧ ∃ S n, H p = some (.set S n))
  | _ => False
theorem tyV_is {pins : List (Addr × Obj)} {σ : St} {H : Hp} {s : Shared} {T : String} {x : V} {v : Value} (I : Inv X pins σ H s) (r : RelV x v) (ty : tyV X.K T x H) :
    s.TypeIs v T ∧ ∀ a, v = .ref a → ∃ ob, s.heap.get? a = some ob ∧ ob.dict = none := by
  cases x with
  | str z =>
    obtain ⟨t, rfl⟩ := r
    cases (show T = "str" from ty)
    exact ⟨typeIs_str s z t, fun _ e => nomatch e⟩
  | int i =>
    obtain ⟨t, rfl⟩ := r
    cases (show T = "int" from ty)
    exact ⟨typeIs_int s i t, fun _ e => nomatch e⟩
  | ref p =>
    cases r
    rcases ty with ⟨rfl, xs, hq⟩ | ⟨rfl, o, hk, hc, hd⟩ | ⟨rfl, hk⟩ | ⟨rfl, S, n, hk⟩
    · obtain ⟨its, _, pl, _⟩ := I.list hq
      refine ⟨pl.isList.typeIs, fun a e => ?_⟩
      cases e
      obtain ⟨o, n, e, c, hd, _⟩ := pl
      exact ⟨o, e, hd⟩
    · refine ⟨⟨o, I.kIn p o hk, hc⟩, fun a e => ?_⟩
      cases e
      exact ⟨o, I.kIn _ o hk, hd⟩
    · have z : ∃ o, s.heap.get? p = some o ∧ o.ExactDict := by
        rcases hk with ⟨kvs, hk⟩ | ⟨kvs, hk⟩
        · obtain ⟨_, _, _, _, o, _, _, e, ex, _⟩ := I.hok p _ hk
          exact ⟨o, e, ex⟩
        · obtain ⟨_, _, _, _, o, _, _, e, ex, _⟩ := I.hok p _ hk
          exact ⟨o, e, ex⟩
      obtain ⟨o, e, ex⟩ := z
      refine ⟨⟨o, e, ex.1⟩, fun a e2 => ?_⟩
      cases e2
      exact ⟨o, e, ex.2.1⟩
    · obtain ⟨o, _, _, _, e, ex, _⟩ := I.hok p _ hk
      refine ⟨⟨o, e, ex.1⟩, fun a e2 => ?_⟩
      cases e2
      exact ⟨o, e, ex.2.1⟩
  | _ => exact False.elim ty
def tBM (K : PySem.W.Frag) (T : String) (r : V → List V → Hp → VK → Prop) (to : TE) (t : TA) : TE := fun σ H Q => to σ H fun x H1 => tyV K T x H1 ∧ t σ H1 fun xs H2 => r x xs H2 Q
variable {o e : Expr} {es : List Expr} {to : TE} {t : TA} {name : Str} {apos cpos : Pos} {T id : String} {r : V → List V → Hp → VK → Prop}
theorem pe_bm (pa : PlainAttrs T) (slot : Slot T name id) (hty : typeOf (.builtin id) = pure (.type "method_descriptor")) (hm : MtR X id r) (ho : PE X o to) (ha : PA X (e :: es) t)
    (hbase : attributeBase o name X.env (eval o X.env) = eval o X.env := by rfl)
    (hfew : ((backTo cpos (starEach (e :: es) X.env)).all (fun x => !x.1) && (backToKw cpos (keywordEach [] X.env)).all (fun x => x.1.isSome)
      && decide ((e :: es).length + ([] : List Keyword).length + (if ([] : List Keyword).isEmpty then 0 else 1) < 30)) = true := by rfl)
    (hline : (apos.endLine == cpos.line) = true := by rfl) (hs : starEach (e :: es) X.env = (false, eval e X.env) :: starEach es X.env := by rfl) (hplain : (backTo cpos (starEach es X.env)).any (·.1) = false := by rfl) :
    PE X (.Call (.Attribute o name apos) (e :: es) [] cpos) (tBM X.K T r to t) := by
  intro pins s σ H Q I h
  refine wpAny_Call_method_late hbase hfew hline rfl (thn (ho pins s σ H _ I h) fun v s1 ⟨x, H1, I1, r1, ty, q1⟩ => ?_)
  obtain ⟨h1, h2⟩ := tyV_is I1 r1 ty
  refine ⟨T, id, pa, slot, hty, h1, h2, ?_⟩
  have hA := ha cpos pins s1 σ H1 _ I1 q1
  rw [hs] at hA ⊢
  refine Calls.callWith_builtin (by show (false || (backTo cpos (starEach es X.env)).any (·.1)) = false; rw [hplain] <;> rfl) (Calls.evalArgs_plain ?_)
  exact thn hA fun us s2 ⟨vs, H2, I2, r2, q2⟩ => hm pins s2 σ H2 x vs v us Q I2 r1 r2 q2
/- xs.append(e), list.index on a module's tuple .. are MtR facts of 06m -/
end
end L2

namespace L2
open PySem PySem.Spec PyProof.Rows

def MtM (X : Cx) (id : String) (r : V → List V → Hp → VK → Prop) : Prop :=
  ∀ (pins : List (Addr × Obj)) (s : Shared) (σ : St) (H : Hp) (x : V) (xs : List V) (v : Value) (us : List Value) (Q : VK), Inv X pins σ H s → RelV x v → Vals xs us → r x xs H Q →
    wpAny (model X.prog X.w) X.A (call (.builtin id) (v :: us)) (EP X pins σ Q) X.xe s

/-! ### lists of values -/
theorem Vals.one : ∀ {x : V} {us : List Value}, Vals [x] us → ∃ u, us = [u] ∧ RelV x u
  | _, _, .cons r .nil => ⟨_, rfl, r⟩
theorem Vals.two : ∀ {x y : V} {us : List Value}, Vals [x, y] us → ∃ u v, us = [u, v] ∧ RelV x u ∧ RelV y v
  | _, _, _, .cons r (.cons q .nil) => ⟨_, _, rfl, r, q⟩
theorem Vals.zero : ∀ {us : List Value}, Vals [] us → us = []
  | _, .nil => rfl
theorem Vals.dropLast {xs : List V} {us : List Value} (h : Vals xs us) : Vals xs.dropLast us.dropLast := by
  induction h with
  | nil => exact .nil
  | cons r t ih =>
    cases t with
    | nil => exact .nil
    | cons q t' => exact .cons r ih
theorem Vals.reverse {xs : List V} {us : List Value} (h : Vals xs us) : Vals xs.reverse us.reverse := by
  induction h with
  | nil => exact .nil
  | cons r t ih => rw [List.reverse_cons, List.reverse_cons]; exact Vals.append ih (.cons r .nil)
theorem Vals.rep {xs : List V} {us : List Value} (h : Vals xs us) : ∀ k : Nat, Vals (List.replicate k xs).flatten (List.replicate k us).flatten
  | 0 => .nil
  | k + 1 => by
    rw [List.replicate_succ, List.replicate_succ, List.flatten_cons, List.flatten_cons]
    exact Vals.append h (Vals.rep h k)
theorem foldl_rep (its : List Value) : ∀ (k : Nat) (acc : List Value),
    List.foldl (fun x1 x2 => x1 ++ x2) acc.toArray (List.replicate k its.toArray) = (acc ++ (List.replicate k its).flatten).toArray
  | 0, acc => by simp
  | k + 1, acc => by
    have e : acc.toArray ++ its.toArray = (acc ++ its).toArray := by simp
    have e2 : (acc ++ its) ++ (List.replicate k its).flatten = acc ++ (List.replicate (k + 1) its).flatten := by
      rw [List.replicate_succ, List.flatten_cons, List.append_assoc]
    rw [← e2, ← foldl_rep its k (acc ++ its), ← e, List.replicate_succ, List.foldl_cons]

section
variable {X : Cx} {pins : List (Addr × Obj)} {σ : St} {H : Hp} {s : Shared} {l b : Addr} {xs ys zs : List V}

/-! ### the two steps: a tracked list is rewritten, a new list is laid -/
theorem Inv.lset {its its' : List Value} {n : Nat} {f : Array Value → Array Value} {t' : Nat} (I : Inv X pins σ H s) (hH : H l = some (.lst xs))
    (e : s.heap.get? l = some { cls := .type "list", data := .seq its.toArray n }) (hf : f its.toArray = its'.toArray) (hv : Vals ys its') (hz : ys.length ≤ sizeLine) :
    Inv X pins σ (upd H l (.lst ys)) { s with heap := s.heap.update l (Obj.mapSeq f), toks := t' } := by
  have q := PySem.IsL.update e f
  rw [hf] at q
  refine I.write (x := l) (e := l) (by rw [hH]; exact trivial) (.inl rfl) (fun b' u hb hu => (Heap.get?_update_other s.heap (Obj.mapSeq f) (Ne.symm hb)).trans hu) ⟨_, q⟩ ?_
  exact ⟨hz, its', _, hv, q⟩
theorem Inv.lnew {its : List Value} {t' : Nat} (I : Inv X pins σ H s) (hv : Vals ys its) (hz : ys.length ≤ sizeLine) :
    Inv X pins σ (upd H s.heap.objs.size (.lst ys)) { s with heap := s.heap.push { cls := .type "list", data := .seq its.toArray }, toks := t' } :=
  I.laid (fun _ _ q => Heap.get?_push_of_some _ q) (Nat.le_refl _) ⟨hz, its, 0, hv, Heap.get?_push_size _ rfl⟩
theorem Inv.fresh (I : Inv X pins σ H s) : H s.heap.objs.size = none := I.hok.fresh (Nat.le_refl _)
theorem Inv.lstM (I : Inv X pins σ H s) (hH : H l = some (.lst xs)) : xs.length ≤ sizeLine ∧ ∃ (its : List Value) (n : Nat), Vals xs its ∧ xs.length = its.length ∧ s.heap.get? l = some { cls := .type "list", data := .seq its.toArray n } := by
  obtain ⟨z, its, n, r, e⟩ := I.hok l _ hH
  exact ⟨z, its, n, r, r.length, e⟩

theorem notLongL {n : Nat} (h : n ≤ sizeLine) : Builtin.List.listTooLong n = false := by
  unfold Builtin.List.listTooLong
  exact decide_eq_false (by omega)
end

section
variable {X : Cx}

/-! ### methods -/
def rAppend : V → List V → Hp → VK → Prop := fun x vs H Q => ∃ l xs y, x = .ref l ∧ vs = [y] ∧ H l = some (.lst xs) ∧ xs.length < sizeLine ∧ Q .non (upd H l (.lst (xs ++ [y])))
theorem mt_append : MtM X "list.append" rAppend := by
  intro pins s σ H x vs v us Q I rx rv h
  obtain ⟨l, xs, y, rfl, rfl, hH, hz, q⟩ := h
  cases rx
  obtain ⟨u, rfl, ru⟩ := rv.one
  obtain ⟨z, its, n, r, hl, e⟩ := I.lstM hH
  refine call_meets F.slot_list_append ⟨_, e, rfl⟩ F.entry_list_append (F.args_list_append_2 _ _) (PySem.list_append l its.toArray n u (by rw [List.size_toArray]; omega)) ⟨e, ?_⟩
  refine ⟨.non, _, I.lset (its' := its ++ [u]) hH e (by simp) (r.append (.cons ru .nil)) ?_, rfl, q⟩
  rw [List.length_append, List.length_singleton]
  omega

/-! ### list + list, list += list, list * int -/
def rCat : R2 := fun x y H Q => ∃ l b xs zs, x = .ref l ∧ y = .ref b ∧ H l = some (.lst xs) ∧ H b = some (.lst zs) ∧ xs.length + zs.length ≤ sizeLine ∧ ∀ p, H p = none → Q (.ref p) (upd H p (.lst (xs ++ zs)))
theorem op_cat : OpR X (binaryOp .Add) rCat := by
  intro pins s σ H x y v u Q I rx ry h
  obtain ⟨l, b, xs, zs, rfl, rfl, hH, hB, hz, q⟩ := h
  cases rx
  cases ry
  obtain ⟨z, its, n, r, hl, e⟩ := I.lstM hH
  obtain ⟨z2, its2, n2, r2, hl2, e2⟩ := I.lstM hB
  refine PySem.P.add_list e e2 ?_ (by rw [List.size_toArray, List.size_toArray]; omega)
  have ea : its.toArray ++ its2.toArray = (its ++ its2).toArray := by simp
  rw [ea]
  exact ⟨.ref _, _, I.lnew (t' := s.toks) (r.append r2) (by rw [List.length_append]; omega), rfl, q _ I.fresh⟩
def rRep : R2 := fun x y H Q => ∃ l k xs, x = .ref l ∧ y = .int k ∧ H l = some (.lst xs) ∧ -(2 ^ 63) ≤ k ∧ k < 2 ^ 63 ∧ xs.length * k.toNat ≤ sizeLine ∧
  ∀ p, H p = none → Q (.ref p) (upd H p (.lst (List.replicate k.toNat xs).flatten))
theorem len_rep {α : Type} (xs : List α) (k : Nat) : (List.replicate k xs).flatten.length = k * xs.length := by
  induction k with
  | zero => simp
  | succ k ih => rw [List.replicate_succ, List.flatten_cons, List.length_append, ih, Nat.succ_mul, Nat.add_comm]
theorem op_rep : OpR X (binaryOp .Mult) rRep := by
  intro pins s σ H x y v u Q I rx ry h
  obtain ⟨l, k, xs, rfl, rfl, hH, h1, h2, hz, q⟩ := h
  cases rx
  obtain ⟨t, rfl⟩ := ry
  obtain ⟨z, its, n, r, hl, e⟩ := I.lstM hH
  have hlen : its.toArray.size * k.toNat ≤ sizeLine := by rw [List.size_toArray, ← hl]; exact hz
  have hcap : ¬ its.toArray.size * k.toNat > (2 ^ 63 - 1) / 8 := by
    have : (sizeLine : Nat) ≤ (2 ^ 63 - 1) / 8 := by decide
    omega
  have hfit : ¬ (!Builtin.List.listFitsIndex k) = true := by
    rw [fitsIndex_both h1 h2]
    exact Bool.false_ne_true
  have hlong : ¬ Builtin.List.listTooLong (its.toArray.size * k.toNat) = true := by
    rw [notLongL hlen]
    exact Bool.false_ne_true
  have hnew : List.foldl (fun x1 x2 => x1 ++ x2) #[] (List.replicate (if its.toArray.isEmpty = true then 0 else k.toNat) its.toArray) = (List.replicate k.toNat its).flatten.toArray := by
    have f0 : ∀ m : Nat, List.foldl (fun x1 x2 => x1 ++ x2) #[] (List.replicate m its.toArray) = (List.replicate m its).flatten.toArray := fun m => by
      have := foldl_rep its m []
      rw [List.nil_append] at this
      exact this
    rw [f0]
    cases its with
    | nil => simp
    | cons a r' => rw [if_neg (by simp)]
  refine wpAny_binaryOp_repeat_ref (T := "list") (U := "int") (by decide) ⟨_, e, rfl⟩ (fun s' => typeIs_int s' k t) noFill_list_mul F.fills_int_mul F.slot_int_rmul repeat_list F.slot_int_index.lookup
    (call_meets F.slot_int_rmul (typeIs_int s k t) F.entry_int_rmul (F.args_int_rmul_2 _ _) (int___rmul___int_list k t l its.toArray n)
      ⟨e, rfl, ⟨_, e, rfl⟩, call_meets F.slot_list_mul ⟨_, e, rfl⟩ F.entry_list_mul (F.args_list_mul_2 _ _) (AutoListH.list___mul___list_int_3 l its.toArray n k t hfit hcap hlong) ⟨e, ?_⟩⟩)
  rw [hnew]
  exact ⟨.ref _, _, I.lnew (t' := s.toks) (r.rep k.toNat) (by rw [len_rep, Nat.mul_comm]; exact hz), rfl, q _ I.fresh⟩

/-! ### del xs[i] -/
end

/-! ### xs[a:b] = ys -/
section
variable {prog : Program} {w : World} {A : Around} {E : Value → Shared → Prop} {s : Shared}
set_option maxRecDepth 100000 in
end

section
variable {X : Cx}
end
end L2

namespace Att
open PySem PySem.W PySem.Calls PyProof.Rows

/-! ### the script -/
theorem ints_of_wellAll {P : Params} {h : Heap} : ∀ (ns : List Int) (vs : List Value), WellAll P h vs (ns.map WData.int) → IntsAre vs ns := by
  intro ns
  induction ns with
  | nil =>
    intro vs w
    rw [List.map_nil] at w
    cases w
    exact .nil
  | cons n ns ih =>
    intro vs w
    rw [List.map_cons] at w
    cases w with
    | cons a b =>
      cases a
      exact .cons _ _ (ih _ b)

theorem script_of {l : OpenLaw} {n : Nat} (hn : l.most = some n) {P : Params} {h : Heap} {args : List WData} {vals : List Value}
    (hpre : l.row.toRowW.claim.pre args = true) (hwl : WellAll P h vals args) :
    ∃ a vs ns, vals = [Value.ref a] ∧ args = [WData.list (ns.map WData.int)] ∧ h.get? a = some { cls := .type "list", data := .seq vs.toArray } ∧ IntsAre vs ns ∧ ns.length ≤ n := by
  have hsh : WShape.hasAll [] args [.list .int] = true := (pre_splitW hpre).1
  have hc : l.pre.holds [] { args := args } = true := (pre_splitW hpre).2
  obtain ⟨d, r, rfl, h1, h2⟩ := hasAllW_cons hsh
  obtain rfl := hasAllW_nil h2
  obtain ⟨xs, rfl, h3⟩ := hasW_list h1
  obtain ⟨ns, rfl⟩ := items_int h3
  have hlen : ns.length ≤ n := by
    unfold OpenLaw.pre at hc
    have h4 : (WTm.not (.lt (.lit (.int (n : Int))) (.len (.arg 0)))).holds [] { args := [.list (ns.map .int)] } = true := by
      have h4 := (holds_andW hc).1
      rw [hn] at h4
      exact h4
    have h5 := condW_of h4 (w_not (w_lt w_lit (w_len_list (w_arg rfl))))
    rw [List.length_map] at h5
    refine Nat.le_of_not_lt fun q => ?_
    have q' : (n : Int) < ((ns.length : Nat) : Int) := by omega
    first
      | (rw [decide_eq_true q'] at h5; exact absurd h5 (by decide))
      | (simp at h5; omega)
  cases hwl with
  | cons w1 w2 =>
    cases w2
    cases w1 with
    | list ho hall => exact ⟨_, _, ns, rfl, rfl, ho, ints_of_wellAll ns _ hall, hlen⟩

theorem post_true (l : OpenLaw) (args : List WData) : l.row.toRowW.claim.post args (.bool true) args = true :=
  postW_of (r := l.row.toRowW) (X := (true == true))
    (show WShape.has [] (.bool true) .bool = true by first | rfl | decide | simp [WShape.has, WShape.arms, WShape.armsAll])
    (show (WTm.eq .res (.lit (.bool true))).value [] { args := args, res := some (.bool true), after := args } = some (.bool (true == true)) from w_eq_bool (w_res rfl) w_lit) rfl

/-! ### the attachment: holds_open's last premise (the goal 'hc' behind k_head) from a wpAny of the law's body -/
theorem attach_call {l : OpenLaw} {n : Nat} {q : Program} {loose : List Str} {XP : (Str → Option Value) → Heap → Prop} {YP : World → Heap → Prop} {d : DefRec}
    (hn : l.most = some n) (hdf : d.params.defaults = [])
    (call : ∀ (w : World) (s₀ s₁ : Shared) (mg mb : Str → Option Value) (fa : Addr) (o : Obj) (pm cd doc : Value) (a : Addr) (vs : List Value) (ns : List Int),
      Ground q loose [] XP w s₀ mg mb s₁.heap → YP w s₁.heap →
      s₁.heap.get? fa = some o → o.data = .func (docDef d.name d.params d.body d.scope pm cd doc) → s₁.heap.CodeRec cd d.name → mg d.name = some (.ref fa) →
      s₁.heap.get? a = some { cls := .type "list", data := .seq vs.toArray } → IntsAre vs ns → ns.length ≤ n → s₁.gens = #[] →
      codeAny (model l.prog w) callerA (.call (.ref fa) ⟨[.ref a], []⟩) (fun r s' => r = .ok (.ret (.bool true)) ∧ OldK s₁.heap s'.heap ∧ s'.os = s₁.os ∧ AllBare s'.gens) s₁) :
    WalkO q loose XP YP l.row.toRowW d [] (fun f vs => PySem.call f vs) := by
  intro w s₀ s₁ mg mb G Y fa o pm cd doc dV kV ho hd hcd hD hmg hg args vals as hpre hlay hrd hwl hlo
  obtain rfl : dV = .none := Dflts.none hD hdf
  obtain rfl : kV = .none := Dflts.noKw hD
  obtain ⟨a, vs, ns, rfl, rfl, hobj, hints, hlen⟩ := script_of hn hpre hwl
  refine enter_call (codeAny_mono (call w s₀ s₁ mg mb fa o pm cd doc a vs ns G Y ho (fd_plain hd) hcd hmg hobj hints hlen hg) fun r s' hq => ?_)
  obtain ⟨rfl, h2, h3, h4⟩ := hq
  exact ⟨.inl ⟨.bool true, .bool true, [], rfl, fun _ => rfl, .bool true, post_true l _, fun _ => ⟨List.Pairwise.nil, fun _ hm => (nomatch hm)⟩⟩, h2, h3, h4⟩

/-! ### rules over ANY heap (no ledger) from facts about the written part K: the library's own take a ledger (News) for what they write -/
section
variable {prog : Program} {w : World} {A : Around} {E : Value → Shared → Prop} {s : Shared} {K : Frag}

/-! the whole heap as the ledger: makes every rule that writes through a ledger a rule over any heap -/
def ledger (h : Heap) (L d : Addr) : List (Addr × Obj) := (List.range h.objs.size).filterMap fun a => if a = L ∨ a = d then none else (h.get? a).map fun o => (a, o)
end
end Att

namespace L2
open PySem PySem.Spec PyProof.Rows

theorem vals_ints : ∀ {vs : List Value} {ns : List Int}, IntsAre vs ns → Vals (ns.map V.int) vs
  | _, _, .nil => .nil
  | _, _, .cons n t h => .cons ⟨t, rfl⟩ (vals_ints h)

def Only (H : Hp) : Prop := ∀ b, H b = none ∨ ∃ o xs, H b = some (.frz o (.lst xs))

theorem law_call {P : Program} {w : World} {K : PySem.W.Frag} {mg mb : Str → Option Value} {CX : CXT} {k : Nat} {fa a : Addr} {fd : FuncData} {x : Str} {sp : Sp} {s₁ : Shared} {vs : List Value} {ns : List Int}
    (KX : K.In s₁.heap) (hns : s₁.heap.Ns mainGlobals mg) (hb : s₁.heap.Ns builtinsNs mb) (hbb : ∀ x : Str, x ≠ "__name__" → mb x = bootBuiltins x) (hlim : s₁.heap.NoLimit) (hg : s₁.gens = #[])
    (ha : s₁.heap.get? a = some { cls := .type "list", data := .seq vs.toArray }) (hi : IntsAre vs ns) (hl : ns.length ≤ sizeLine) (hr : Room k callerA)
    (F : ∀ base : Heap, K.In base → base.Ns mainGlobals mg → FnOk P w K mg base CX k fa fd [x] sp) (hbind : ∀ (s : Shared) (u : Value), BindsTo s fd ⟨[u], []⟩ [(x, u)])
    (hsp : ∀ H : Hp, Only H → SqL K H a (ns.map V.int) → sp [.ref a] H (fun v _ => v = .bl true) fun _ _ _ => False)
    (hCX : ∀ H e s', CX [] H s₁ (fun _ _ _ => False) e s' → False) :
    codeAny (model P w) callerA (.call (.ref fa) ⟨[.ref a], []⟩) (fun r s' => r = .ok (.ret (.bool true)) ∧ OldK s₁.heap s'.heap ∧ s'.os = s₁.os ∧ AllBare s'.gens) s₁ := by
  have rv := vals_ints hi
  have lenV := hi.length
  -- from an abstract heap in which nothing but the script may be tracked
  have core : ∀ H : Hp, Only H → SqL K H a (ns.map V.int) → HOk P w H s₁.heap → (∀ b, H b ≠ none → b = a) → (H a ≠ none → K.lookup a = none) →
      codeAny (model P w) callerA (.call (.ref fa) ⟨[.ref a], []⟩) (fun r s' => r = .ok (.ret (.bool true)) ∧ OldK s₁.heap s'.heap ∧ s'.os = s₁.os ∧ AllBare s'.gens) s₁ := by
    intro H hO hS hok hA hK
    have base_of : ∀ {b : Addr} {o : Obj}, s₁.heap.get? b = some o → H b = none → (hidT s₁.heap H).get? b = some o := fun e n => hidT_get e n
    have noA : ∀ {b : Addr} {o : Obj} {es : Array DictEntry} {ep : Nat}, s₁.heap.get? b = some o → o.data = .dict es ep → H b = none := fun {b o es ep} e d => by
      cases q : H b with
      | none => rfl
      | some u =>
        have e' : b = a := hA b (by rw [q]; simp)
        subst e'
        rw [ha] at e; cases e
        have d' : Data.seq vs.toArray _ = Data.dict es ep := d
        cases d'
    have nsK : ∀ {b : Addr} {m : Str → Option Value}, s₁.heap.Ns b m → (hidT s₁.heap H).Ns b m := fun {b m} ⟨o, es, ep, e, d, r⟩ => ⟨o, es, ep, base_of e (noA e d), d, r⟩
    have hKb : K.In (hidT s₁.heap H) := fun b o e => base_of (KX b o e) (by
      cases q : H b with
      | none => rfl
      | some u =>
        have e' : b = a := hA b (by rw [q]; simp)
        subst e'
        rw [hK (by rw [q]; simp)] at e; cases e)
    have hM : Mod K mg (hidT s₁.heap H) := ⟨hKb, nsK hns, ⟨mb, nsK hb, hbb⟩, let ⟨mc, h1, h2⟩ := hlim; ⟨mc, nsK h1, h2⟩⟩
    have e0 : Env0 P w K mg (hidT s₁.heap H) callerA [] s₁ H := ⟨rfl, hM, fun b o e => of_hidT e, Nat.le_of_eq (hidT_size _ _), trivial, fun b hb => absurd (show b ∈ ([] : List Addr) from hb) (by simp), hok, .of_eq hg⟩
    refine codeAny_mono ((F _ hKb (nsK hns)).run callerA [] s₁ H ⟨[.ref a], []⟩ [.ref a] [.ref a] _ _ hr e0 (hbind s₁ (.ref a)) (.cons rfl .nil) (hsp H hO hS)) fun r s' h => ?_
    cases r with
    | error e => exact (hCX H e s' h).elim
    | ok fl =>
      cases fl with
      | next => exact False.elim h
      | brk => exact False.elim h
      | cont => exact False.elim h
      | ret u =>
        obtain ⟨v, H', os, bare, un, hok', r', q⟩ := h
        have q' : v = .bl true := q
        subst q'
        obtain rfl : u = Value.bool true := r'
        refine ⟨rfl, OldK.of_keep fun b o e => ?_, os, bare⟩
        cases q : H b with
        | none => exact un.keep b o e q (by intro z; exact absurd (show b ∈ ([] : List Addr) from z) (by simp)) (by simp)
        | some u =>
          rcases hO b with z | ⟨ob, xs, z⟩
          · rw [q] at z; cases z
          · have z2 := un.frzs b ob _ z
            obtain ⟨e1, _⟩ := hok b _ z
            obtain ⟨e2, _⟩ := hok' b _ z2
            rw [e] at e1; cases e1
            exact e2
  cases hk : K.lookup a with
  | some o =>
    -- the script is one of the module's own objects
    have e := KX a o hk
    rw [ha] at e
    cases e
    refine core (fun _ => none) (fun _ => .inl rfl) (.inr ⟨_, vs.toArray, _, hk, rfl, rfl, rfl, by rw [List.size_toArray, lenV]; exact hl, by simpa using rv⟩) (fun b u z => by have z' : (none : Option HO) = some u := z; cases z') (fun b z => absurd rfl z) fun z => absurd rfl z
  | none =>
    refine core (fun b => if b = a then some (.frz { cls := .type "list", data := .seq vs.toArray } (.lst (ns.map V.int))) else none) (fun b => ?_) (.inl (.inr ⟨{ cls := .type "list", data := .seq vs.toArray }, if_pos rfl⟩)) (fun b u z => ?_) (fun b z => ?_) fun _ => hk
    · by_cases hb : b = a
      · exact .inr ⟨_, _, if_pos hb⟩
      · exact .inl (if_neg hb)
    · by_cases hb : b = a
      · have z' := (if_pos hb).symm.trans z
        cases z'
        subst hb
        exact ⟨ha, by rw [List.length_map]; exact hl, vs, _, rv, ha⟩
      · have z' := (if_neg hb).symm.trans z
        cases z'
    · by_cases hb : b = a
      · exact hb
      · exact absurd (if_neg hb) z
end L2

namespace L2
open PySem PySem.Spec PyProof.Rows

abbrev KOf {K : PySem.W.Frag} {h : Heap} (_ : K.In h) : PySem.W.Frag := K

theorem walk_of {l : PySem.W.OpenLaw} {n k : Nat} {q : Program} {loose : List Str} {XP : (Str → Option Value) → Heap → Prop} {YP : World → Heap → Prop} {d : DefRec} {K : Params → PySem.W.Frag} {CX : World → CXT} {sp : World → Sp} {x : Str}
    (hn : l.most = some n) (hn2 : n ≤ sizeLine) (hdf : d.params.defaults = []) (hr : Room k callerA)
    (hY : ∀ (w : World) (h : Heap), YP w h → (K w.params).In h)
    (F : ∀ (w : World) (mg : Str → Option Value) (fa : Addr) (h : Heap), (K w.params).In h → h.Ns mainGlobals mg → mg d.name = some (.ref fa) →
      ∃ fd : FuncData, (∀ (s : Shared) (u : Value), BindsTo s fd ⟨[u], []⟩ [(x, u)]) ∧
        ∀ base : Heap, (K w.params).In base → base.Ns mainGlobals mg → FnOk l.prog w (K w.params) mg base (CX w) k fa fd [x] (sp w))
    (hsp : ∀ (w : World) (H : Hp) (a : Addr) (ns : List Int), ns.length ≤ n → Only H → SqL (K w.params) H a (ns.map V.int) → sp w [.ref a] H (fun v _ => v = .bl true) fun _ _ _ => False)
    (hCX : ∀ (w : World) (H : Hp) (s : Shared) (e : Value) (s' : Shared), CX w [] H s (fun _ _ _ => False) e s' → False) :
    PySem.W.WalkO q loose XP YP l.row.toRowW d [] (fun f vs => PySem.call f vs) := by
  refine Att.attach_call hn hdf fun w s₀ s₁ mg mb fa o pm cd doc a vs ns G Y ho hd hcd hmg hobj hints hlen hg => ?_
  have KX := hY w _ Y
  obtain ⟨fd, hb, hF⟩ := F w mg fa _ KX G.T.g hmg
  exact law_call KX G.T.g G.T.b G.T.builtins G.T.nolimit hg hobj hints (Nat.le_trans hlen hn2) hr hF hb (fun H hO hS => hsp w H a ns hlen hO hS) fun H e s' => hCX w H s₁ e s'
end L2

/- THE LAST THEOREM (shape; LID, My.* are yours):
   My.Adr: a structure of the addresses that your layer names (classes, functions); My.Txt K t: a structure (Prop) of the equations over K;
   My.txt_mk : {K} {implicit addresses ..} (e1 : nsIn K mainGlobals "law" = some (some (.ref f))) (e2 : K.lookup f = some ⟨oc, od, .func (fnOf "law" "law" params body scope dV kV doc pm an cdv ct), sl⟩) (e3 : codeIn K cdv "law" = true) .. : ∃ t, My.Txt K t

set_option maxRecDepth 100000 in
set_option maxHeartbeats 0 in
theorem PySem.Challenge.cw_LID_holds : PySem.Challenge.rw_LID.Holds := by
  w_on; o_law; k_head; (case hw => w_witness2)
  k_fill
  refine L2.walk_of (l := PySem.Challenge.rw_LID) (n := 63) (k := 40) (x := "script") (CX := fun w => ..) (sp := fun _ => My.sp_law) rfl (by decide) rfl ⟨rfl, by decide, by decide⟩ (fun w h Y => PySem.W.kIn_of Y) ?F ?S ?C
  case F =>
    intro w mg fa h KX G hmg
    have T : ∃ t, My.Txt (L2.KOf KX) t := by
      dsimp only [L2.KOf]                          -- K must stand as «<heap const> w.params» for k_is
      refine' My.txt_mk ?e1 ?e2 ?e3 ..
      (case e1 => PySem.W.k_is)                    -- in the order: a name -> its address -> its object -> its parts
      (case e2 => PySem.W.k_is)
      ..
    obtain ⟨t, T⟩ := T
    have e0 := hmg.symm.trans (PySem.W.mg_of KX G T.law)
    cases e0                                       -- fa is the law's own address
    exact ⟨_, fun s u => .of_eq rfl, fun base kb nb => My.law_fn T kb nb⟩     -- if «.of_eq rfl» comes too early: refine' ⟨_, ?b, fun base kb nb => My.law_fn T kb nb⟩; exact fun s u => .of_eq rfl
  case S => exact fun w H a ns hl hO hS => ..
  case C => exact ..
(the tactic k_is has no namespace: write k_is) -/

/-! SHORT WORDS over the layer: a def of the text, its body, what a loop and a test want. -/
namespace L2
open PySem PySem.Spec PyProof.Rows

/-! ### the text by places -/
def inClass (s : Stmt) (j : Nat) : Stmt := match s with
  | .ClassDef _ _ _ body _ _ _ _ _ _ _ => body.getD j (.Pass ⟨0, 0, 0, 0⟩)
  | _ => .Pass ⟨0, 0, 0, 0⟩
def defArgs (s : Stmt) : Arguments := match s with
  | .FunctionDef _ a _ _ _ _ _ _ _ _ => a
  | _ => { posonlyargs := [], args := [], vararg := none, kwonlyargs := [], kw_defaults := [], kwarg := none, defaults := [] }
def defBody (s : Stmt) : List Stmt := match s with
  | .FunctionDef _ _ b _ _ _ _ _ _ _ => b
  | _ => []
def defScope (s : Stmt) : Scope := match s with
  | .FunctionDef _ _ _ _ _ _ sc _ _ _ => sc
  | _ => { kind := .function, names := [], isGenerator := false, isCoroutine := false }

/-! ### no exception leaves a def -/
abbrev CX0 : CXT := fun _ _ _ _ _ _ => False
abbrev E0 : XK := fun _ _ _ => False
theorem pass0 {X : Cx} : Passes CX0 X E0 := fun _ _ _ _ _ _ _ h => h.elim

/-! ### a def (or method) of the text as it stands behind the top -/
structure Fun (K : PySem.W.Frag) (x qual : Str) (st : Stmt) (f : Addr) (fd : FuncData) : Prop where
  ex : ∃ (oc : Value) (od : Option Addr) (kV doc pm : Value) (an : Option Addr) (cdv ct : Value) (osl : Array (Option Value)),
    fd = PySem.W.fnOf x qual (defArgs st) (defBody st) (defScope st) .none kV doc pm an cdv ct ∧ K.lookup f = some ⟨oc, od, .func fd, osl⟩ ∧ PySem.W.codeIn K cdv qual = true
  kp : PySem.W.keepIn K (.ref f) = true
section
variable {P : Program} {w : World} {K : PySem.W.Frag} {mg : Str → Option Value} {base : Heap}
theorem Fun.ok {x qual : Str} {st : Stmt} {f : Addr} {fd : FuncData} {N ps : List Str} {k : Nat} {sp : Sp} (F : Fun K x qual st f fd) (S : FnScope N ps (defScope st)) (len : ∀ vs H Q E, sp vs H Q E → vs.length = ps.length)
    (hbody : ∀ (cdv : Value) (A : Around) (outer : List Env) (s : Shared) (H : Hp) (vs : List V) (Q : VK) (E : XK), Room k (A.deeper (envOfC qual (defScope st) s.heap.objs.size f cdv)) → sp vs H Q E →
      ∃ t, PSs (cxOf CX0 P w K mg base N qual (defScope st) f cdv A outer s H E).nox (defBody st) t ∧ t { nx := fun _ H' => Q .non H', rt := Q } (start N vs) H) : FnOk P w K mg base CX0 (k + 1) f fd ps sp := by
  obtain ⟨oc, od, kV, doc, pm, an, cdv, ct, osl, rfl, lk, hcd⟩ := F.ex
  refine fn_of lk hcd S len fun A outer s H vs Q E hr hsp => ?_
  obtain ⟨t, h, q⟩ := hbody cdv A outer s H vs Q E hr hsp
  exact ⟨t, h.nox, q⟩
theorem Fun.binds {x qual : Str} {st : Stmt} {f : Addr} {fd : FuncData} {ps : List Str} (F : Fun K x qual st f fd)
    (h : ∀ (kV doc pm : Value) (an : Option Addr) (cdv ct : Value) (us : List Value), us.length = ps.length → bindArgs (PySem.W.fnOf x qual (defArgs st) (defBody st) (defScope st) .none kV doc pm an cdv ct) ⟨us, []⟩ = pure (ps.zip us)) : Binds K fd ps [] := by
  obtain ⟨oc, od, kV, doc, pm, an, cdv, ct, osl, rfl, lk, hcd⟩ := F.ex
  exact .all (h kV doc pm an cdv ct)
theorem fun_mk {x qual : Str} {st : Stmt} {f : Addr} {oc : Value} {od an : Option Addr} {osl : Array (Option Value)} {kV doc pm cdv ct : Value} (l : K.lookup f = some ⟨oc, od, .func (PySem.W.fnOf x qual (defArgs st) (defBody st) (defScope st) .none kV doc pm an cdv ct), osl⟩)
    (c : PySem.W.codeIn K cdv qual = true) (k : PySem.W.keepIn K (.ref f) = true) : Fun K x qual st f (PySem.W.fnOf x qual (defArgs st) (defBody st) (defScope st) .none kV doc pm an cdv ct) := ⟨⟨oc, od, kV, doc, pm, an, cdv, ct, osl, rfl, l, c⟩, k⟩
end
theorem small1000 {n : Nat} (h : n ≤ 1000) : n < sizeLine := Nat.lt_of_le_of_lt h (by decide)

/-! ### expressions in short: the name that stands in the i-th slot -/
section
variable {X : Cx}
theorem pv (i : Nat) {x : Str} {pos : Pos} (hN : X.N[i]? = some x := by rfl) (hv : Vis X.env.scope x := by first | exact Or.inl rfl | exact Or.inr (Or.inl rfl) | exact Or.inr (Or.inr rfl)) (hd : (x == ("__debug__" : Str)) = false := by decide)
    (hcd : (x == ("__classdict__" : Str)) = false := by decide) : PE X (.Name x pos) (tVar i) := pe_var hN hv hd hcd
end

/-! ### tests -/
theorem iteF {A B : Prop} (h : B) : if false = true then A else B := by
  rw [if_neg Bool.false_ne_true]
  exact h
theorem iteT {A B : Prop} (h : A) : if true = true then A else B := by
  rw [if_pos rfl]
  exact h
theorem ite2 {c A B : Prop} [Decidable c] (h1 : c → A) (h2 : ¬ c → B) : if c then A else B := by
  by_cases h : c
  · rw [if_pos h]
    exact h1 h
  · rw [if_neg h]
    exact h2 h
/-! ### heaps -/
def Same (H H' : Hp) : Prop := ∀ b o, H b = some o → H' b = some o
theorem Same.refl (H : Hp) : Same H H := fun _ _ h => h
theorem Same.trans {H H1 H2 : Hp} (a : Same H H1) (b : Same H1 H2) : Same H H2 := fun c o h => b c o (a c o h)
theorem Same.free {H H' : Hp} (e : Same H H') {l : Addr} (h : H' l = Option.none) : H l = Option.none := by
  cases q : H l with
  | none => rfl
  | some o =>
    rw [e l o q] at h
    cases h
theorem Same.seq {K : PySem.W.Frag} {H H' : Hp} {a : Addr} {xs : List V} (e : Same H H') (h : SqL K H a xs) : SqL K H' a xs := by
  rcases h with (h | ⟨o, h⟩) | h
  · exact .inl (.inl (e _ _ h))
  · exact .inl (.inr ⟨o, e _ _ h⟩)
  · exact .inr h

end L2

set_option maxRecDepth 100000
set_option maxHeartbeats 4000000
namespace L2
open PySem PySem.Spec PySem.SeqAt PyProof.Rows

theorem log2_lt_of {n k : Nat} (hk : 0 < k) (h : n < 2 ^ k) : n.log2 < k := by
  rcases Nat.eq_zero_or_pos n with h0 | hp
  · rw [h0]; exact hk
  · exact (Nat.log2_lt (Nat.ne_of_gt hp)).mpr h
def Sml (i : Int) : Prop := i.natAbs < 2 ^ 4000
theorem bits_of_sml {i : Int} (h : Sml i) : Builtin.Int.intBits i ≤ 2 ^ 20 := by
  have hl : i.natAbs.log2 < 4000 := log2_lt_of (by decide) h
  have e : (2 : Nat) ^ 20 = 1048576 := by decide
  unfold Builtin.Int.intBits
  split <;> omega
def CMulX (i j : Int) : Prop := CMul i j ∨ (Sml i ∧ Sml j)
def CDivX (j : Int) : Prop := j ≠ 0 ∧ Sml j
section
variable {X : Cx}
theorem op_mulX : OpR X (binaryOp .Mult) (rI CMulX fun i j => .int (i * j)) := opI fun _ _ _ _ _ _ _ hc q => by
  rcases hc with hc | ⟨h1, h2⟩
  · exact mul_int q hc.ok
  · exact mul_int q (IntMulOk.of_bits (bits_of_sml h1) (bits_of_sml h2))
theorem op_fdivX : OpR X (binaryOp .FloorDiv) (rI (fun _ j => CDivX j) fun i j => .int (i.fdiv j)) := opI fun i j _ _ _ _ _ hc q =>
  floordiv_int hc.1 q (.inl (PyProof.noPylong_of_log2 (Nat.lt_of_lt_of_le (log2_lt_of (k := 4000) (by decide) hc.2) (by decide))))

def rIsi (K : PySem.W.Frag) : List V → Hp → VK → Prop := fun xs H Q => ∃ x n t b, xs = [x, .ty n] ∧ TyOf K H x t ∧ PySem.W.kitOne K t (.type n) = some b ∧ Q (.bl b) H
theorem call_isi : CallR X (.builtin "isinstance") (rIsi X.K) := by
  intro pins s σ H xs us Q I r h
  obtain ⟨x, n, t, b, rfl, ty, e, q⟩ := h
  obtain ⟨u, v, rfl, ru, rv⟩ := vals2 r
  cases (show v = Value.type n from rv)
  exact isinst_ok I ru ty e fun tk => ⟨.bl b, H, I.tok _, rfl, q⟩
end

mutual
inductive Rep (H : Hp) : V → PyData → Prop
  | non : Rep H .non .none
  | bl (b) : Rep H (.bl b) (.bool b)
  | int (i) : Rep H (.int i) (.int i)
  | str (x) : Rep H (.str x) (.str x)
  | lst {a xs ds} : H a = some (.lst xs) → RepAll H xs ds → Rep H (.ref a) (.list ds)
  | tup {a xs ds} : H a = some (.tup xs) → RepAll H xs ds → Rep H (.ref a) (.tuple ds)
inductive RepAll (H : Hp) : List V → List PyData → Prop
  | nil : RepAll H [] []
  | cons {v vs d ds} : Rep H v d → RepAll H vs ds → RepAll H (v :: vs) (d :: ds)
end
mutual
theorem Rep.mono {H H' : Hp} (e : Same H H') : ∀ {v : V} {d : PyData}, Rep H v d → Rep H' v d
  | _, _, .non => .non
  | _, _, .bl b => .bl b
  | _, _, .int i => .int i
  | _, _, .str x => .str x
  | _, _, .lst h r => .lst (e _ _ h) (RepAll.mono e r)
  | _, _, .tup h r => .tup (e _ _ h) (RepAll.mono e r)
theorem RepAll.mono {H H' : Hp} (e : Same H H') : ∀ {vs : List V} {ds : List PyData}, RepAll H vs ds → RepAll H' vs ds
  | _, _, .nil => .nil
  | _, _, .cons r t => .cons (Rep.mono e r) (RepAll.mono e t)
end
theorem RepAll.length {H : Hp} : ∀ {vs : List V} {ds : List PyData}, RepAll H vs ds → vs.length = ds.length
  | _, _, .nil => rfl
  | _, _, .cons _ t => by rw [List.length_cons, List.length_cons, RepAll.length t]
theorem RepAll.append {H : Hp} : ∀ {vs ws : List V} {ds es : List PyData}, RepAll H vs ds → RepAll H ws es → RepAll H (vs ++ ws) (ds ++ es)
  | _, _, _, _, .nil, s => s
  | _, _, _, _, .cons r t, s => .cons r (RepAll.append t s)
theorem RepAll.get {H : Hp} : ∀ {vs : List V} {ds : List PyData} {i : Nat} {d : PyData}, RepAll H vs ds → ds[i]? = some d → ∃ v, vs[i]? = some v ∧ Rep H v d
  | _, _, _, _, .nil, e => by simp at e
  | _, _, 0, _, .cons r _, e => by simp at e; subst e; exact ⟨_, rfl, r⟩
  | _, _, i + 1, d, .cons _ t, e => by
    obtain ⟨u, h1, h2⟩ := RepAll.get (i := i) (d := d) t (by simpa using e)
    exact ⟨u, by simpa using h1, h2⟩
theorem RepAll.getV {H : Hp} : ∀ {vs : List V} {ds : List PyData} {i : Nat} {v : V}, RepAll H vs ds → vs[i]? = some v → ∃ d, ds[i]? = some d ∧ Rep H v d
  | _, _, _, _, .nil, e => by simp at e
  | _, _, 0, _, .cons r _, e => by simp at e; subst e; exact ⟨_, rfl, r⟩
  | _, _, i + 1, d, .cons _ t, e => by
    obtain ⟨u, h1, h2⟩ := RepAll.getV (i := i) (v := d) t (by simpa using e)
    exact ⟨u, by simpa using h1, h2⟩
theorem RepAll.take {H : Hp} : ∀ {vs : List V} {ds : List PyData} (n : Nat), RepAll H vs ds → RepAll H (vs.take n) (ds.take n)
  | _, _, 0, _ => .nil
  | _, _, _ + 1, .nil => .nil
  | _, _, n + 1, .cons r t => .cons r (RepAll.take n t)
theorem RepAll.drop {H : Hp} : ∀ {vs : List V} {ds : List PyData} (n : Nat), RepAll H vs ds → RepAll H (vs.drop n) (ds.drop n)
  | _, _, 0, r => r
  | _, _, _ + 1, .nil => .nil
  | _, _, n + 1, .cons _ t => RepAll.drop n t
theorem RepAll.ints {H : Hp} : ∀ ns : List Int, RepAll H (ns.map V.int) (ns.map PyData.int)
  | [] => .nil
  | n :: r => .cons (.int n) (RepAll.ints r)
mutual
theorem Rep.reads {P : Program} {w : World} {H : Hp} {h : Heap} (ok : HOk P w H h) : ∀ {v : V} {d : PyData} {u : Value}, Rep H v d → RelV v u → ∃ as, Reads h u d as
  | _, _, _, .non, r => by cases r; exact ⟨_, .none⟩
  | _, _, _, .bl b, r => by cases r; exact ⟨_, .bool b⟩
  | _, _, _, .int i, r => by obtain ⟨t, rfl⟩ := r; exact ⟨_, .int i t⟩
  | _, _, _, .str x, r => by obtain ⟨t, rfl⟩ := r; exact ⟨_, .str x t⟩
  | _, _, _, .lst (a := a) (xs := xs) e ra, r => by
    cases r
    obtain ⟨_, its, n, rv, ho⟩ := (show ObjOk P w H h a (.lst xs) from ok a _ e)
    obtain ⟨as, q⟩ := RepAll.reads ok ra rv
    exact ⟨_, .list ho rfl rfl (by simpa using q)⟩
  | _, _, _, .tup (a := a) (xs := xs) e ra, r => by
    cases r
    obtain ⟨_, its, rv, o, ho, hc, n, hd⟩ := (show ObjOk P w H h a (.tup xs) from ok a _ e)
    obtain ⟨as, q⟩ := RepAll.reads ok ra rv
    exact ⟨_, .tuple ho hc hd (by simpa using q)⟩
theorem RepAll.reads {P : Program} {w : World} {H : Hp} {h : Heap} (ok : HOk P w H h) : ∀ {vs : List V} {ds : List PyData} {us : List Value}, RepAll H vs ds → Vals vs us → ∃ as, ReadsAll h us ds as
  | _, _, _, .nil, .nil => ⟨_, .nil⟩
  | _, _, _, .cons r t, .cons rv tv => by
    obtain ⟨as, q1⟩ := Rep.reads ok r rv
    obtain ⟨bs, q2⟩ := RepAll.reads ok t tv
    exact ⟨_, .cons q1 q2⟩
end
section
variable {X : Cx}
def rEqD : R2 := fun x y H Q => ∃ dx dy, Rep H x dx ∧ Rep H y dy ∧ shaped dx = true ∧ shaped dy = true ∧ Q (.bl (PyData.eqv dx dy)) H
def rNeD : R2 := fun x y H Q => ∃ dx dy, Rep H x dx ∧ Rep H y dy ∧ shaped dx = true ∧ shaped dy = true ∧ Q (.bl (!PyData.eqv dx dy)) H
theorem op_eqD (hu : X.A.units + 64 < cLine) : OpR X (compareOp .Eq) rEqD := by
  intro pins s σ H x y v u Q I rx ry h
  obtain ⟨dx, dy, hx, hy, sx, sy, q⟩ := h
  obtain ⟨as, ra⟩ := hx.reads I.hok rx
  obtain ⟨bs, rb⟩ := hy.reads I.hok ry
  exact eq_dataH ra rb sx sy hu ⟨.bl _, H, I, rfl, q⟩
theorem op_neD (hu : X.A.units + 64 < cLine) : OpR X (compareOp .NotEq) rNeD := by
  intro pins s σ H x y v u Q I rx ry h
  obtain ⟨dx, dy, hx, hy, sx, sy, q⟩ := h
  obtain ⟨as, ra⟩ := hx.reads I.hok rx
  obtain ⟨bs, rb⟩ := hy.reads I.hok ry
  exact ne_dataH ra rb sx sy hu ⟨.bl _, H, I, rfl, q⟩
end
theorem same_new {H : Hp} {p : Addr} (h : H p = none) (o : HO) : Same H (upd H p o) := fun b u q => by rw [upd_ne (ne_of_none q h)]; exact q

structure Df (K : PySem.W.Frag) (mg : Str → Option Value) (x : Str) (st : Stmt) (ps : List Str) (f : Addr) (fd : FuncData) : Prop where
  fn : Fun K x x st f fd
  bd : Binds K fd ps []
  mg : mg x = some (.ref f)
section
variable {X : Cx} {k : Nat} {x : Str} {st : Stmt} {f : Addr} {fd : FuncData} {ps : List Str} {sp : Sp} {p pos : Pos} {e : Expr} {es : List Expr} {t : TA}
theorem pe_cd (D : Df X.K X.mg x st ps f fd) (F : FnOk X.prog X.w X.K X.mg X.base CX0 k f fd ps sp) (hr : Room k X.A) (hg : Gl X x) (ha : PA X (e :: es) t) (hdb : (x == ("__debug__" : Str)) = false := by decide)
    (he : starEach (e :: es) X.env = (false, eval e X.env) :: starEach es X.env := by rfl) (hpl : (backTo pos (starEach es X.env)).any (·.1) = false := by rfl) :
    PE X (.Call (.Name x p) (e :: es) [] pos) (tCall sp [] E0 t) := pe_call F hr hg D.mg D.fn.kp D.bd .nil pass0 ha hdb he hpl
end
end L2

set_option maxRecDepth 100000
set_option maxHeartbeats 4000000
namespace L2
open PySem PySem.Spec PySem.SeqAt PyProof.Rows

def cloF (cells : List (Str × Addr)) : List (Str × NameKind) → List (Str × Addr) → List (Str × Addr)
  | [], acc => acc
  | (n, k) :: r, acc => if k = .free then cloF cells r ((n, (cells.lookup n).getD 0) :: acc) else cloF cells r acc
theorem closureFor_of {scope : Scope} {env : Env} (h : ∀ y ∈ scope.names, y.2 = .free → ∃ c, env.cells.lookup y.1 = some c) : closureFor scope env = pure (cloF env.cells scope.names []) := by
  have key : ∀ (names : List (Str × NameKind)) (cs : List (Str × Addr)), (∀ y ∈ names, y.2 = .free → ∃ c, env.cells.lookup y.1 = some c) →
      (forIn names cs fun (x : Str × NameKind) (r : List (Str × Addr)) => (match x with
        | (name, kind) => if (kind == .free) = true then do let a ← cellOf env name; pure (ForInStep.yield ((name, a) :: r)) else pure (ForInStep.yield r) : Sem (ForInStep (List (Str × Addr))))) = (pure (cloF env.cells names cs) : Sem _) := by
    intro names
    induction names with
    | nil => intro cs _; rfl
    | cons y r ih =>
      intro cs hy
      obtain ⟨n, k⟩ := y
      rw [List.forIn_cons]
      by_cases hk : k = .free
      · obtain ⟨c, hc⟩ := hy (n, k) List.mem_cons_self hk
        have hc' : env.cells.lookup n = some c := hc
        subst hk
        have e1 : cellOf env n = pure c := by unfold cellOf; rw [hc']
        simp only [beq_self_eq_true, if_true, e1, pure_bind]
        rw [ih _ fun z hz => hy z (List.mem_cons_of_mem _ hz)]
        simp only [cloF, if_true, hc', Option.getD_some]
      · have hb : (k == NameKind.free) = false := by simpa using hk
        simp only [hb, Bool.false_eq_true, if_false, pure_bind]
        rw [ih _ fun z hz => hy z (List.mem_cons_of_mem _ hz)]
        simp only [cloF, if_neg hk]
  have e : closureFor scope env = (forIn scope.names ([] : List (Str × Addr)) (fun (x : Str × NameKind) (r : List (Str × Addr)) => (match x with
        | (name, kind) => if (kind == .free) = true then do let a ← cellOf env name; pure (ForInStep.yield ((name, a) :: r)) else pure (ForInStep.yield r) : Sem (ForInStep (List (Str × Addr))))) >>= fun r => pure r) := by
    unfold closureFor
    rfl
  rw [e, key _ _ h]
  rfl
theorem cloF_sub {cells : List (Str × Addr)} {x : Str} {c : Addr} : ∀ {names : List (Str × NameKind)} {acc : List (Str × Addr)}, (∀ y ∈ names, y.2 = .free → ∃ c, cells.lookup y.1 = some c) →
    (cloF cells names acc).lookup x = some c → cells.lookup x = some c ∨ acc.lookup x = some c
  | [], acc, _, h => .inr h
  | (n, k) :: r, acc, hy, h => by
    unfold cloF at h
    by_cases hk : k = .free
    · rw [if_pos hk] at h
      obtain ⟨d, hd⟩ := hy (n, k) List.mem_cons_self hk
      have hd' : cells.lookup n = some d := hd
      rw [hd'] at h
      rcases cloF_sub (fun z hz => hy z (List.mem_cons_of_mem _ hz)) h with q | q
      · exact .inl q
      · rw [List.lookup_cons] at q
        cases e : x == n with
        | true =>
          have e' : x = n := eq_of_beq e
          rw [e] at q
          subst e'
          exact .inl (by rw [hd']; exact q)
        | false =>
          rw [e] at q
          exact .inr q
    · rw [if_neg hk] at h
      exact cloF_sub (fun z hz => hy z (List.mem_cons_of_mem _ hz)) h
theorem cloF_of {cells : List (Str × Addr)} {x : Str} {c : Addr} (hc : cells.lookup x = some c) : ∀ {names : List (Str × NameKind)} {acc : List (Str × Addr)}, ((x, NameKind.free) ∈ names ∨ acc.lookup x = some c) →
    (cloF cells names acc).lookup x = some c
  | [], acc, h => by
    rcases h with h | h
    · cases h
    · exact h
  | (n, k) :: r, acc, h => by
    unfold cloF
    by_cases hk : k = .free
    · rw [if_pos hk]
      refine cloF_of hc ?_
      by_cases e : x = n
      · subst e
        exact .inr (by rw [List.lookup_cons, beq_self_eq_true, hc]; rfl)
      · have eb : (x == n) = false := by simpa using e
        rcases h with h | h
        · rcases List.mem_cons.mp h with z | z
          · exact absurd (congrArg Prod.fst z) e
          · exact .inl z
        · exact .inr (by rw [List.lookup_cons, eb]; exact h)
    · rw [if_neg hk]
      refine cloF_of hc ?_
      rcases h with h | h
      · rcases List.mem_cons.mp h with z | z
        · exact absurd (congrArg Prod.snd z).symm hk
        · exact .inl z
      · exact .inr h
theorem lookup_relabel_free {env : Env} : ∀ {names : List (Str × NameKind)} {x : Str}, names.lookup x = some .free →
    (names.map fun (n, k) => if (k == NameKind.free && env.scope.kind == .function && env.kindOf n == some .cell) then (n, NameKind.cell) else (n, k)).lookup x = some .cell ∨
    (names.map fun (n, k) => if (k == NameKind.free && env.scope.kind == .function && env.kindOf n == some .cell) then (n, NameKind.cell) else (n, k)).lookup x = some .free
  | [], _, h => by simp at h
  | (n, k) :: r, x, h => by
    have ih := @lookup_relabel_free env r x
    show List.lookup x ((if (k == NameKind.free && env.scope.kind == .function && env.kindOf n == some .cell) = true then (n, NameKind.cell) else (n, k)) :: _) = _ ∨ List.lookup x ((if (k == NameKind.free && env.scope.kind == .function && env.kindOf n == some .cell) = true then (n, NameKind.cell) else (n, k)) :: _) = _
    cases hx : x == n with
    | true =>
      simp only [List.lookup_cons, hx] at h
      cases h
      by_cases hc : (NameKind.free == NameKind.free && env.scope.kind == .function && env.kindOf n == some .cell) = true
      · rw [if_pos hc]; simp [List.lookup_cons, hx]
      · rw [if_neg hc]; simp [List.lookup_cons, hx]
    | false =>
      simp only [List.lookup_cons, hx] at h
      by_cases hc : (k == NameKind.free && env.scope.kind == .function && env.kindOf n == some .cell) = true
      · rw [if_pos hc]; simp only [List.lookup_cons, hx]; exact ih h
      · rw [if_neg hc]; simp only [List.lookup_cons, hx]; exact ih h
theorem relabel_kinds {env : Env} : ∀ {names : List (Str × NameKind)} {x : Str}, (∀ y ∈ names, y.2 ≠ .cell) →
    ((names.map fun (n, k) => if (k == NameKind.free && env.scope.kind == .function && env.kindOf n == some .cell) then (n, NameKind.cell) else (n, k)).lookup x = some .cell ∨
    (names.map fun (n, k) => if (k == NameKind.free && env.scope.kind == .function && env.kindOf n == some .cell) then (n, NameKind.cell) else (n, k)).lookup x = some .free) → names.lookup x = some .free
  | [], _, _, h => by simp at h
  | (n, k) :: r, x, hn, h => by
    have ih := @relabel_kinds env r x fun y hy => hn y (List.mem_cons_of_mem _ hy)
    have hnk : k ≠ .cell := hn (n, k) List.mem_cons_self
    change List.lookup x ((if (k == NameKind.free && env.scope.kind == .function && env.kindOf n == some .cell) = true then (n, NameKind.cell) else (n, k)) :: _) = _ ∨ List.lookup x ((if (k == NameKind.free && env.scope.kind == .function && env.kindOf n == some .cell) = true then (n, NameKind.cell) else (n, k)) :: _) = _ at h
    cases hx : x == n with
    | true =>
      rw [List.lookup_cons, hx]
      by_cases hc : (k == NameKind.free && env.scope.kind == .function && env.kindOf n == some .cell) = true
      · have hk : k = .free := by
          rw [Bool.and_eq_true, Bool.and_eq_true] at hc
          exact eq_of_beq hc.1.1
        rw [hk]
      · rw [if_neg hc] at h
        simp only [List.lookup_cons, hx] at h
        rcases h with h | h
        · exact absurd (Option.some.inj h) hnk
        · exact h
    | false =>
      rw [List.lookup_cons, hx]
      by_cases hc : (k == NameKind.free && env.scope.kind == .function && env.kindOf n == some .cell) = true
      · rw [if_pos hc] at h; simp only [List.lookup_cons, hx] at h; exact ih h
      · rw [if_neg hc] at h; simp only [List.lookup_cons, hx] at h; exact ih h

def blk (X : Cx) (N' : List Str) (sc : Scope) (C : Addr) (s₀ : Shared) (H₀ : Hp) (fp : List Addr) : Cx :=
  { X with N := N', s₀ := s₀, H₀ := H₀, env := compEnvC sc (cloF X.env.cells sc.names []) C X.env, outer := X.stack, ex := fp, fn := fun _ => false, pn := [], xe := fun _ _ => False }
def sgb (nt : Nat) (idx : List Nat) (σ : St) : St := List.replicate nt none ++ idx.map fun j => (σ[j]?).getD none
structure BlkOk (X : Cx) (N' : List Str) (sc : Scope) (nt : Nat) (idx : List Nat) : Prop where
  kind : sc.kind = .function
  nocell : ∀ y ∈ sc.names, y.2 ≠ .cell
  loc : ∀ y ∈ sc.names, y.2 = .local → sc.names.lookup y.1 = some .local
  fr : ∀ y ∈ sc.names, y.2 = .free → X.env.kindOf y.1 = some .cell ∨ X.env.kindOf y.1 = some .free
  len : nt + idx.length = N'.length
  ix : ∀ p ∈ idx.zip (N'.drop nt), X.N[p.1]? = some p.2 ∧ sc.names.lookup p.2 = some .free
theorem mem_of_lookup' {names : List (Str × NameKind)} {x : Str} {k : NameKind} (h : names.lookup x = some k) : (x, k) ∈ names := PySem.mem_of_lookup h
theorem inv_blk {X : Cx} {N' : List Str} {sc : Scope} {nt : Nat} {idx : List Nat} {pins : List (Addr × Obj)} {σ : St} {H : Hp} {s : Shared} {fp : List Addr} {h' : Heap} {tk : Nat} {m : Str → Option Value} (B : BlkOk X N' sc nt idx)
    (I : Inv X pins σ H s) (hf : ∀ b ∈ fp, FpOk X pins H b) (hlt : ∀ b ∈ fp, b < s.heap.objs.size) (hns : h'.Ns s.heap.objs.size m) (hk : ∀ b o, s.heap.get? b = some o → h'.get? b = some o) :
    Inv (blk X N' sc s.heap.objs.size s H fp) (X.pn ++ pins) (sgb nt idx σ) H { s with heap := h', toks := tk } := by
  have hcl : ∀ y ∈ sc.names, y.2 = .free → ∃ c, X.env.cells.lookup y.1 = some c := fun y hy e => I.ok.has y.1 (B.fr y hy e)
  have sub : ∀ x c, (cloF X.env.cells sc.names []).lookup x = some c → X.env.cells.lookup x = some c := fun x c h => by
    rcases cloF_sub hcl h with z | z
    · exact z
    · simp at z
  have fsEq : ∀ b, b ∈ frs X.stack → b = X.env.locals ∨ b ∈ X.fs := fun b hb => List.mem_cons.mp (I.stkSub b hb)
  have nofsX : ∀ b, b ≠ X.env.locals → b ∉ X.fs → b ∉ frs X.stack := fun b h1 h2 h => (fsEq b h).elim h1 h2
  have fresh : H s.heap.objs.size = none := I.hok.fresh (Nat.le_refl _)
  refine ⟨⟨I.ok.mod, B.kind, I.ok.glob, I.ok.blt, Nat.le_refl _, fun x y c h1 h2 => I.ok.inj x y c (sub x c h1) (sub y c h2), fun x hx => ?_, fun x c hx _ => ?_, I.ok.hd, I.ok.frames, .inl rfl, fun b hb => ⟨Nat.ne_of_lt (hlt b hb), fun x c h => (hf b hb).2.2.2.2.1 x c (sub x c h)⟩,
      I.bs, Nat.le_trans I.ok.bsz I.sz, fun b o e hb => ?_, fun b hb => nofsX b (hf b hb).2.1 (hf b hb).2.2.1, I.stack, I.stkFree⟩,
    rfl, I.bare, Un.kept hk, ⟨m, hns, fun i x v h1 h2 h3 => ?_⟩, fun x c h => ?_, fresh, fun x c h => I.freeC x c (sub x c h), fun p hp => ?_, I.hok.kept hk, ?_⟩
  · -- has
    have hx' := relabel_kinds (env := X.env) (x := x) B.nocell hx
    obtain ⟨c, hc⟩ := hcl (x, .free) (mem_of_lookup' hx') rfl
    exact ⟨c, cloF_of hc (.inl (mem_of_lookup' hx'))⟩
  · -- cab
    have hx' : false = true := hx
    cases hx'
  · -- noex
    rcases (hf b hb).2.2.2.1 with z | z
    · exact I.ok.noex b o e z
    · exact absurd (Nat.lt_of_lt_of_le (Heap.lt_size e) (Nat.le_trans I.ok.bsz z)) (Nat.lt_irrefl _)
  · -- loc
    have h1' : N'[i]? = some x := h1
    by_cases hi : i < nt
    · exfalso
      unfold sgb at h2
      rw [List.getElem?_append_left (by simpa using hi), List.getElem?_replicate] at h2
      split at h2 <;> cases h2
    · unfold sgb at h2
      rw [List.getElem?_append_right (by simpa using hi), List.length_replicate, List.getElem?_map] at h2
      cases ej : idx[i - nt]? with
      | none => rw [ej] at h2; cases h2
      | some j =>
        rw [ej] at h2
        have h2' : (σ[j]?).getD none = some v := by simpa using h2
        have hz : (j, x) ∈ idx.zip (N'.drop nt) := by
          have e1 : (N'.drop nt)[i - nt]? = some x := by rw [List.getElem?_drop]; rw [show nt + (i - nt) = i by omega]; exact h1'
          refine List.mem_of_getElem? (i := i - nt) ?_
          rw [List.getElem?_zip_eq_some]
          exact ⟨ej, e1⟩
        obtain ⟨q1, q2⟩ := B.ix _ hz
        have q1' : X.N[j]? = some x := q1
        have q2' : sc.names.lookup x = some .free := q2
        have hs : σ[j]? = some (some v) := by
          cases e : σ[j]? with
          | none => rw [e] at h2'; cases h2'
          | some o => rw [e] at h2'; exact congrArg some h2'
        have hkx := B.fr (x, .free) (mem_of_lookup' q2') rfl
        obtain ⟨mX, _, hl⟩ := I.loc
        obtain ⟨u, ru, lk⟩ := hl j x v q1' hs (by
          rcases hkx with z | z
          · exact .inr (.inl z)
          · exact .inr (.inr z))
        refine ⟨u, ru, .inr ⟨lookup_relabel_free (env := X.env) q2', ?_⟩⟩
        rcases lk with ⟨z, _⟩ | ⟨_, c, hc, hcell⟩
        · exfalso
          rcases hkx with y | y
          · rw [z] at y; cases y
          · rw [z] at y; cases y
        · obtain ⟨o, ho, hd⟩ := hcell
          exact ⟨c, cloF_of hc (.inl (mem_of_lookup' q2')), o, hk c o ho, hd⟩
  · obtain ⟨v, o, ho, hd⟩ := I.cell x c (sub x c h)
    exact ⟨v, o, hk c o ho, hd⟩
  · have hp' : p ∈ X.pn ++ pins := by
      have : p ∈ ([] : List (Addr × Obj)) ++ (X.pn ++ pins) := hp
      simpa using this
    obtain ⟨e, n, ne, nf, d⟩ := I.pin p hp'
    exact ⟨hk _ _ e, n, Nat.ne_of_lt (Heap.lt_size e), nofsX _ ne nf, d⟩
  · show (sgb nt idx σ).length = N'.length
    unfold sgb
    rw [List.length_append, List.length_replicate, List.length_map]
    exact B.len
end L2

set_option maxRecDepth 100000
set_option maxHeartbeats 4000000
namespace L2
open PySem PySem.Spec PySem.SeqAt PyProof.Rows

def Wk : St → St → Prop
  | [], [] => True
  | none :: r, _ :: r' => Wk r r'
  | some a :: r, b :: r' => b = some a ∧ Wk r r'
  | _, _ => False
theorem Wk.ok : ∀ {σ σ2 : St}, Wk σ σ2 → σ.length = σ2.length ∧ ∀ (i : Nat) (v : V), σ[i]? = some (some v) → σ2[i]? = some (some v)
  | [], [], _ => ⟨rfl, fun _ _ h => h⟩
  | none :: r, b :: r', h => by
    obtain ⟨h1, h2⟩ := Wk.ok (σ := r) (σ2 := r') h
    refine ⟨by simp [h1], fun i v e => ?_⟩
    cases i with
    | zero => simp at e
    | succ i => simpa using h2 i v (by simpa using e)
  | some a :: r, b :: r', h => by
    obtain ⟨hb, h⟩ := h
    obtain ⟨h1, h2⟩ := Wk.ok (σ := r) (σ2 := r') h
    refine ⟨by simp [h1], fun i v e => ?_⟩
    cases i with
    | zero => subst hb; simpa using e
    | succ i => simpa using h2 i v (by simpa using e)
  | [], _ :: _, h => h.elim
  | none :: _, [], h => h.elim
  | some _ :: _, [], h => h.elim

abbrev TN := St → Hp → (Hp → Prop) → Prop
def tLoop (J : It) (g : TG) (tif : TT) (tin : TN) : TN := fun σ H Q => ∃ W : Nat → Nat → Hp → Prop, (∃ m, W 0 m H) ∧ ∀ i m H, W i m H →
  (J.stop i H ∧ Q H) ∨ (J.go i H ∧ ∃ N : Hp → Prop, (∀ H', N H' → ∃ m', m' < m ∧ W (i + 1) m' H') ∧ ∀ x H', J.yld i H x H' → g x σ H' fun σ2 H2 => Wk σ σ2 ∧ tif σ2 H2 fun b H3 => if b = true then tin σ2 H3 N else N H3)
def tEmit (D : Addr) (te : TE) : TN := fun σ H N => te σ H fun y H1 => ∃ ys, H1 D = some (.lst ys) ∧ ys.length < sizeLine ∧ N (upd H1 D (.lst (ys ++ [y])))
def PTs (Y : Cx) (ifs : List Expr) (t : TT) : Prop :=
  ∀ (pins : List (Addr × Obj)) (s : Shared) (σ : St) (H : Hp) (Q : Bool → Hp → Prop), Inv Y pins σ H s → t σ H Q →
    wpAny (model Y.prog Y.w) Y.A (forIn ifs true fun c r => if r = true then do let ok ← isTrue c Y.env (eval c Y.env); pure (ForInStep.yield ok) else pure (ForInStep.yield r)) (TP Y pins σ Q) Y.xe s
def tNoIf : TT := fun _ H Q => Q true H
theorem pts_nil {Y : Cx} : PTs Y [] tNoIf := fun _ _ _ H _ I h => wpAny_tests_nil ⟨H, I, h⟩
def PN (Y : Cx) (m : Sem Unit) (t : TN) : Prop :=
  ∀ (pins : List (Addr × Obj)) (s : Shared) (σ : St) (H : Hp) (N : Hp → Prop), Inv Y pins σ H s → t σ H N → wpAny (model Y.prog Y.w) Y.A m (fun _ s' => ∃ H', Inv Y pins σ H' s' ∧ N H') Y.xe s
def NoX (Y : Cx) : Prop := ∀ e s, ¬ Y.xe e s
theorem NoX.any {Y : Cx} (hx : NoX Y) {α : Type} {t : Sem α} {Q : α → Shared → Prop} {E : Value → Shared → Prop} {s : Shared} (h : wpAny (model Y.prog Y.w) Y.A t Q Y.xe s) : wpAny (model Y.prog Y.w) Y.A t Q E s :=
  wpAny_mono h (fun _ _ q => q) fun e s' z => (hx e s' z).elim
theorem pn_emit {Y : Cx} {elt : Expr} {te : TE} {D : Addr} (he : PE Y elt te) : PN Y (do let _ ← call (.builtin "list.append") [.ref D, ← eval elt Y.env]) (tEmit D te) := by
  intro pins s σ H N I h
  refine wpAny_bind (thn (he pins s σ H _ I h) fun u s1 ⟨y, H1, I1, r1, ys, e1, hl, hN⟩ => ?_)
  refine wpAny_bind (thn (mt_append (X := Y) pins s1 σ H1 (.ref D) [y] (.ref D) [u] (fun _ H2 => N H2) I1 rfl (.cons r1 .nil) ⟨D, ys, y, rfl, rfl, e1, hl, hN⟩) fun v s2 ⟨z, H2, I2, _, q2⟩ => ?_)
  exact wpAny_pure ⟨H2, I2, q2⟩

def turnTree (e : Expr) (d : Nat) (it acc : Value) (env : Env) (target : Expr) (ifs : List Expr) (ipos : Pos) (inner : Sem Unit) : Sem Fin := do
  standAt ipos
  match ← pyNext it with
  | none => pure (.done .next)
  | some v =>
    letOwnedTupleGo target it v
    assign target env v
    let mut ok := true
    for c in ifs do
      if ok then ok ← isTrue c env (eval c env)
    if ok then
      inner
    again (.compLoop e d it acc env)
theorem turn1 (elt target iter : Expr) (ifs : List Expr) (scope : Scope) (pos : Pos) (it acc : Value) (env : Env) :
    compTurn (.ListComp elt [⟨target, iter, ifs, 0⟩] scope pos) 0 it acc env = turnTree (.ListComp elt [⟨target, iter, ifs, 0⟩] scope pos) 0 it acc env target ifs iter.pos (do let _ ← call (.builtin "list.append") [acc, ← eval elt env]) := rfl
def LR (Y : Cx) (pins : List (Addr × Obj)) (σ : St) (Q : Hp → Prop) (r : Result) (s' : Shared) : Prop :=
  match r with
  | .ok _ => ∃ H', Inv Y pins σ H' s' ∧ Q H'
  | .error _ => False
theorem loop_ok {Y : Cx} (hx : NoX Y) (hc : Y.calm = true) {elt : Expr} {gens : List Comprehension} {scope : Scope} {pos : Pos} {d : Nat} {it D : Addr} {tg : Expr} {ifs : List Expr} {ipos : Pos} {inner : Sem Unit} {J : It} {fp : List Addr} {tn : Nat → Heap → Prop} {g : TG} {tif : TT} {tin : TN}
    (ht : compTurn (.ListComp elt gens scope pos) d (.ref it) (.ref D) Y.env = turnTree (.ListComp elt gens scope pos) d (.ref it) (.ref D) Y.env tg ifs ipos inner)
    (T : Turn Y.prog Y.w Y.K tg J fp it tn) (hg : PG Y tg g) (hi : PTs Y ifs tif) (hn : PN Y inner tin)
    {pins : List (Addr × Obj)} {s : Shared} {σ : St} {H : Hp} {Q : Hp → Prop} (I : Inv Y pins σ H s) (st : tn 0 s.heap) (f : ∀ b ∈ fp, FpOk Y pins H b) (h : tLoop J g tif tin σ H Q) :
    codeAny (model Y.prog Y.w) Y.A (.compLoop (.ListComp elt gens scope pos) d (.ref it) (.ref D) Y.env) (LR Y pins σ Q) s := by
  obtain ⟨W, ⟨m0, w0⟩, turn⟩ := h
  have stat : ∀ {H' : Hp}, (∀ b ∈ fp, H' b = none) → ∀ b ∈ fp, FpOk Y pins H' b := fun hn b hb => ⟨hn b hb, (f b hb).2⟩
  refine codeAny_loop rfl (fun n s' => ∃ i H', Inv Y pins σ H' s' ∧ tn i s'.heap ∧ (∀ b ∈ fp, H' b = none) ∧ W i n H') ?_ m0 ⟨0, H, I, st, fun b hb => (f b hb).1, w0⟩
  rintro n s3 ⟨i, H3, I3, st3, fr3, w3⟩
  show wpAny _ Y.A ((compTurn (.ListComp elt gens scope pos) d (.ref it) (.ref D) Y.env).onRaise (fun x => do noteFrame x Y.env; theTreesLotGoes x)) _ _ s3
  refine wpAny_noted ?_
  rw [ht]
  unfold turnTree
  refine wpAny_bind (wpAny_standAt ?_)
  rcases turn i n H3 w3 with ⟨stop, qn⟩ | ⟨go, N, hN, step⟩
  · refine wpAny_bind (thn (hx.any (T.done Y rfl rfl rfl hc i pins s3 σ H3 Y.xe I3 (stat fr3) st3 stop)) fun r s4 ⟨hr, I4⟩ => ?_)
    subst hr
    exact wpAny_pure ⟨H3, I4, qn⟩
  · refine wpAny_bind (thn (hx.any (T.item Y rfl rfl rfl hc i pins s3 σ H3 Y.xe I3 (stat fr3) st3 go)) fun r s4 ⟨u, hr, h4⟩ => ?_)
    subst hr
    refine wpAny_bind (thn (hx.any h4) fun _ s5 ⟨x, H5, I5, r5, y5, st5, fr5⟩ => ?_)
    have I5' := I5.pinned (stat fr5) (T.obj _ _ st5)
    refine wpAny_bind (thn (hx.any (hg _ s5 σ H5 x u _ I5' r5 (step x H5 y5))) fun _ s6 ⟨σ6, H6, I6, wk, q6⟩ => ?_)
    obtain ⟨wl, wv⟩ := wk.ok
    have again : ∀ {σ7 : St} {H7 : Hp} {s7 : Shared}, Inv Y (pins ++ pinsAt fp s5.heap) σ7 H7 s7 → Wk σ σ7 → N H7 → ∃ m, m < n ∧ ∃ i H', Inv Y pins σ H' s7 ∧ tn i s7.heap ∧ (∀ b ∈ fp, H' b = none) ∧ W i m H' := fun {σ7 H7 s7} I7 wk7 n7 => by
      obtain ⟨m', hm, w7⟩ := hN H7 n7
      obtain ⟨wl7, wv7⟩ := wk7.ok
      refine ⟨m', hm, i + 1, H7, (I7.weak wl7 wv7).unpinned, T.keep _ _ _ st5 fun b hb o e => (I7.pin (b, o) (List.mem_append_right _ (List.mem_append_right _ (mem_pinsAt hb e)))).1, fun b hb => ?_, w7⟩
      obtain ⟨o, e, d⟩ := T.obj _ _ st5 b hb
      exact (I7.pin (b, o) (List.mem_append_right _ (List.mem_append_right _ (mem_pinsAt hb e)))).2.1
    refine wpAny_bind (thn (hx.any (hi _ s6 σ6 H6 _ I6 q6)) fun ok s7 ⟨H7, I7, q7⟩ => ?_)
    cases ok with
    | false => exact wpAny_pure ⟨rfl, again I7 wk q7⟩
    | true => exact wpAny_bind (thn (hx.any (hn _ s7 σ6 H7 N I7 q7)) fun _ s8 ⟨H8, I8, q8⟩ => wpAny_pure ⟨rfl, again I8 wk q8⟩)

theorem start_any {prog : Program} {w : World} {A : Around} {R : Result → Shared → Prop} {s : Shared} {elt : Expr} {gens : List Comprehension} {scope : Scope} {pos : Pos} {d : Nat} {it acc : Value} {env : Env} {g : Comprehension} (hg : gens[d]? = some g) (ha : g.is_async = 0)
    (h0 : codeAny (model prog w) A (.compLoop (.ListComp elt gens scope pos) d it acc env) R s)
    (h : wpAny (model prog w) A (pyIter it) (fun it' s' => codeAny (model prog w) A (.compLoop (.ListComp elt gens scope pos) d it' acc env) R s') (notedBy (model prog w) A env fun x s' => R (.error x) s') s) :
    codeAny (model prog w) A (.compStart (.ListComp elt gens scope pos) d it acc env) R s := by
  refine codeAny_of_tree ?_
  show wpAny _ _ ((compStart (.ListComp elt gens scope pos) d it acc env).onRaise (fun x => do noteFrame x env; standAt theWindowsPlace)) _ _ s
  refine wpAny_notedAt ?_
  unfold compStart
  rw [show clausesOf (.ListComp elt gens scope pos) = gens from rfl, hg]
  have e1 : (Option.elim (some g) false fun x => x.is_async != 0) = false := by show (g.is_async != 0) = false; rw [ha]; rfl
  rw [e1]
  show wpAny _ _ (ask >>= _) _ _ s
  refine wpAny_bind (wpAny_askSetting (wpAny_ite ?_))
  split
  · exact wpAny_bind (wpAny_pure (wpAny_pure (And.intro rfl h0)))
  · exact wpAny_bind (wpAny_rule (wpAny_bind (wpAny_standAt (wpAny_bind (wpAny_mono h (fun it' s' h' => wpAny_pure (And.intro rfl h')) fun _ _ x => x)))))
end L2

set_option maxRecDepth 100000
set_option maxHeartbeats 4000000
namespace L2
open PySem PySem.Spec PySem.SeqAt PyProof.Rows
theorem blk_back {X : Cx} {N' : List Str} {sc : Scope} {pins pinsY : List (Addr × Obj)} {σ σY : St} {H H' : Hp} {s s' : Shared} {fp : List Addr} {h' : Heap} (I : Inv X pins σ H s) (hf : ∀ b ∈ fp, FpOk X pins H b)
    (IY : Inv (blk X N' sc s.heap.objs.size s H fp) pinsY σY H' s') (hs : Heap.SameBut s.heap.objs.size s'.heap h') : Inv X pins σ H' { s' with heap := h' } := by
  have hC : ∀ b o, s.heap.get? b = some o → b ≠ s.heap.objs.size := fun b o e => Nat.ne_of_lt (Heap.lt_size e)
  have nC : H' s.heap.objs.size = none := IY.free
  have u : Un (frs X.stack) fp H H' s.heap s'.heap := IY.base
  have kk : ∀ b o, b ≠ s.heap.objs.size → s'.heap.get? b = some o → h'.get? b = some o := fun b o hb e => hs.extBut b o hb e
  refine I.call' (s' := { s' with heap := h' }) (ch := fp) IY.os ⟨fun b o e n h1 h2 => kk b o (hC b o e) (u.keep b o e n h1 h2), fun b o e n h1 h2 => ?_, u.free, fun b o e h2 => ?_, u.tups, u.frzs, u.tbls⟩ ?_ IY.bare fun b hb => ?_
  · obtain ⟨sl, q⟩ := u.slot b o e n h1 h2
    exact ⟨sl, kk b _ (hC b o e) q⟩
  · obtain ⟨o', q⟩ := u.there b o e h2
    exact ⟨o', kk b _ (hC b o e) q⟩
  · intro a o e
    refine (IY.hok a o e).stay (fun b v hb q => kk b v ?_ q) (fun _ q => q) fun _ _ q => q
    rintro rfl
    rcases hb with z | z
    · rw [z] at nC; rw [nC] at e; cases e
    · rw [nC] at z; cases z
  · obtain ⟨f0, f1, f2, f3, f4, f5⟩ := hf b hb
    exact ⟨f3, f1, f4, f5⟩

section
variable {X : Cx} {N' : List Str} {sc : Scope} {nt : Nat} {idx : List Nat} {elt tg iter : Expr} {ifs : List Expr} {gs : List Comprehension} {pos : Pos} {wi : TI} {g : TG} {tif : TT} {tin : Addr → TN}
def tComp (nt : Nat) (idx : List Nat) (wi : TI) (g : TG) (tif : TT) (tin : Addr → TN) : TE := fun σ H Q => wi σ H fun J H1 => ∀ D, H1 D = none → tLoop J g tif (tin D) (sgb nt idx σ) (upd H1 D (.lst [])) fun H2 => Q (.ref D) H2
structure CompOk (X : Cx) (N' : List Str) (sc : Scope) (elt tg iter : Expr) (ifs : List Expr) (gs : List Comprehension) (pos : Pos) (g : TG) (tif : TT) (tin : Addr → TN) : Prop where
  ok : ∀ (C : Addr) (s₀ : Shared) (H₀ : Hp) (fp : List Addr) (D it : Addr), ∃ inner : Sem Unit,
    compTurn (.ListComp elt (⟨tg, iter, ifs, 0⟩ :: gs) sc pos) 0 (.ref it) (.ref D) (blk X N' sc C s₀ H₀ fp).env = turnTree (.ListComp elt (⟨tg, iter, ifs, 0⟩ :: gs) sc pos) 0 (.ref it) (.ref D) (blk X N' sc C s₀ H₀ fp).env tg ifs iter.pos inner ∧
    PG (blk X N' sc C s₀ H₀ fp) tg g ∧ PTs (blk X N' sc C s₀ H₀ fp) ifs tif ∧ PN (blk X N' sc C s₀ H₀ fp) inner (tin D)
theorem comp_run (B : BlkOk X N' sc nt idx) (hc : X.calm = true) (hi : PI X tg iter wi) (O : CompOk X N' sc elt tg iter ifs gs pos g tif tin) {pins : List (Addr × Obj)} {s : Shared} {σ : St} {H : Hp} {Q : VK} {E : Value → Shared → Prop} {use : Option (Value → Sem Unit)} {QQ : Value → Shared → Prop}
    (I : Inv X pins σ H s) (h : tComp nt idx wi g tif tin σ H Q) (hE : ∀ e s, X.xe e s → E e s)
    (hend : ∀ (D C : Addr) (s3 s' : Shared) (H3 H' : Hp) (fp : List Addr) (pinsY : List (Addr × Obj)) (σY : St), C = s3.heap.objs.size → Inv X pins σ H3 s3 → (∀ b ∈ fp, FpOk X pins H3 b) → Inv (blk X N' sc C s3 H3 fp) pinsY σY H' s' → Q (.ref D) H' →
      compPost (model X.prog X.w) X.A E use QQ (.ref D) C (.ok .next) s') :
    wpAny (model X.prog X.w) X.A (eval iter X.env) (fun x s₁ => wpAny (model X.prog X.w) X.A (pyIter x) (fun it s₂ => wpAny (model X.prog X.w) X.A (newList []) (fun acc s₃ =>
      wpAny (model X.prog X.w) X.A (newFunctionEnv sc X.env.globals (cloF X.env.cells sc.names []) [] X.env.qual none .none (some X.env)) (fun cenv s₄ =>
        codeAny (model X.prog X.w) X.A (.compStart (.ListComp elt (⟨tg, iter, ifs, 0⟩ :: gs) sc pos) 0 it acc { cenv with scope := relabel sc X.env }) (compPost (model X.prog X.w) X.A E use QQ acc cenv.locals) s₄) E s₃) E s₂) E s₁) E s := by
  refine wpAny_mono (hi pins s σ H _ I h) (fun v s1 h1 => wpAny_mono h1 (fun itv s2 h2 => ?_) hE) hE
  obtain ⟨it, fp, tn, J, H2, e, I2, T, st2, f2, hl⟩ := h2
  subst e
  refine wpAny_newObj_type ?_
  have I3 : Inv X pins σ (upd H2 s2.heap.objs.size (.lst [])) { s2 with heap := s2.heap.push { cls := .type "list", data := .seq ([] : List Value).toArray } } := I2.lnew (its := []) (ys := []) (t' := s2.toks) .nil (Nat.zero_le _)
  have hD : H2 s2.heap.objs.size = none := I2.hok.fresh (Nat.le_refl _)
  have lt2 : ∀ b ∈ fp, b < s2.heap.objs.size := fun b hb => let ⟨o, ho, _⟩ := T.obj _ _ st2 b hb; Heap.lt_size ho
  have f3 : ∀ b ∈ fp, FpOk X pins (upd H2 s2.heap.objs.size (.lst [])) b := fun b hb => ⟨by rw [upd_ne (Nat.ne_of_lt (lt2 b hb))]; exact (f2 b hb).1, (f2 b hb).2⟩
  generalize hS3 : ({ s2 with heap := s2.heap.push { cls := .type "list", data := .seq ([] : List Value).toArray } } : Shared) = s3 at I3 ⊢
  have lt3 : ∀ b ∈ fp, b < s3.heap.objs.size := fun b hb => by rw [← hS3]; show b < (s2.heap.push _).objs.size; rw [Heap.size_push]; exact Nat.lt_succ_of_lt (lt2 b hb)
  have k3 : ∀ b o, s2.heap.get? b = some o → s3.heap.get? b = some o := fun b o e => by rw [← hS3]; exact Heap.get?_push_of_some _ e
  refine wpAny_newFunctionEnv B.nocell (by intro y hy; simp at hy) (fun h₁ hns hsb => ?_) B.kind
  have old : ∀ b o, s3.heap.get? b = some o → h₁.get? b = some o := fun b o e => hsb.extBut b o (Nat.ne_of_lt (Heap.lt_size e)) (Heap.get?_push_of_some _ e)
  have IY := inv_blk (tk := s3.toks + ([] : List (Str × Value)).length) B I3 f3 lt3 hns old
  have hx : NoX (blk X N' sc s3.heap.objs.size s3 (upd H2 s2.heap.objs.size (.lst [])) fp) := fun _ _ z => z
  obtain ⟨inner, ht, hg, hif, hin⟩ := O.ok s3.heap.objs.size s3 (upd H2 s2.heap.objs.size (.lst [])) fp s2.heap.objs.size it
  have stY : tn 0 h₁ := T.keep _ _ _ st2 fun b _ o e => old b o (k3 b o e)
  have fY : ∀ b ∈ fp, FpOk (blk X N' sc s3.heap.objs.size s3 (upd H2 s2.heap.objs.size (.lst [])) fp) (X.pn ++ pins) (upd H2 s2.heap.objs.size (.lst [])) b := fun b hb => by
    obtain ⟨g0, g1, g2, g3, g4, g5⟩ := f3 b hb
    refine ⟨g0, Nat.ne_of_lt (lt3 b hb), fun z => (List.mem_cons.mp (I3.stkSub b z)).elim g1 g2, .inl hb, fun x c e => ?_, fun p hp => g5 p (by have hp' : p ∈ ([] : List (Addr × Obj)) ++ (X.pn ++ pins) := hp; simpa using hp')⟩
    rcases cloF_sub (fun y hy e => I3.ok.has y.1 (B.fr y hy e)) e with z | z
    · exact g4 x c z
    · simp at z
  have loop : codeAny (model X.prog X.w) X.A (.compLoop (.ListComp elt (⟨tg, iter, ifs, 0⟩ :: gs) sc pos) 0 (.ref it) (.ref s2.heap.objs.size) (blk X N' sc s3.heap.objs.size s3 (upd H2 s2.heap.objs.size (.lst [])) fp).env)
      (compPost (model X.prog X.w) X.A E use QQ (.ref s2.heap.objs.size) s3.heap.objs.size) { s3 with heap := h₁, toks := s3.toks + ([] : List (Str × Value)).length } := by
    refine codeAny_mono (loop_ok (Y := blk X N' sc s3.heap.objs.size s3 (upd H2 s2.heap.objs.size (.lst [])) fp) hx hc ht T hg hif hin IY stY fY (hl _ hD)) fun r s' hr => ?_
    cases r with
    | error e => exact False.elim hr
    | ok fl =>
      obtain ⟨H', IY', q⟩ := hr
      have fin := hend s2.heap.objs.size _ s3 s' _ H' fp _ _ rfl I3 f3 IY' q
      cases use with
      | none => exact fin
      | some u => exact fin
  exact start_any (g := ⟨tg, iter, ifs, 0⟩) rfl rfl loop (T.self _ 0 _ _ _ stY loop)
theorem pe_comp (B : BlkOk X N' sc nt idx) (hc : X.calm = true) (hi : PI X tg iter wi) (O : CompOk X N' sc elt tg iter ifs gs pos g tif tin) (hs : ∀ x, foldedSetIterable iter X.env x = pure x := by intro _; rfl) :
    PE X (.ListComp elt (⟨tg, iter, ifs, 0⟩ :: gs) sc pos) (tComp nt idx wi g tif tin) := by
  intro pins s σ H Q I h
  rw [eval_ListComp]
  refine wpAny_comprehension_free (use := none) (cl := cloF X.env.cells sc.names []) rfl hs (closureFor_of fun y hy e => I.ok.has y.1 (B.fr y hy e)) B.kind B.loc
    (comp_run B hc hi O I h (fun _ _ z => z) fun D C s3 s' H3 H' fp pinsY σY hC I3 f3 IY q => ?_)
  subst hC
  obtain ⟨m, hn, _⟩ := IY.loc
  exact ⟨m, hn, fun h' hs' => ⟨.ref D, H', blk_back I3 f3 IY hs', rfl, q⟩⟩
theorem comp1 {te : TE} (hg : ∀ C s₀ H₀ fp, PG (blk X N' sc C s₀ H₀ fp) tg g) (hif : ∀ C s₀ H₀ fp, PTs (blk X N' sc C s₀ H₀ fp) ifs tif) (he : ∀ C s₀ H₀ fp, PE (blk X N' sc C s₀ H₀ fp) elt te) :
    CompOk X N' sc elt tg iter ifs [] pos g tif (fun D => tEmit D te) :=
  ⟨fun C s₀ H₀ fp D it => ⟨_, turn1 elt tg iter ifs sc pos (.ref it) (.ref D) _, hg C s₀ H₀ fp, hif C s₀ H₀ fp, pn_emit (he C s₀ H₀ fp)⟩⟩
end
end L2

set_option maxRecDepth 100000
set_option maxHeartbeats 4000000
namespace L2
open PySem PySem.Spec PySem.SeqAt PyProof.Rows
def chkB (N N' : List Str) (sc osc : Scope) (nt : Nat) (idx : List Nat) : Bool :=
  decide (sc.kind = .function) && sc.names.all (fun y => decide (y.2 ≠ .cell)) && sc.names.all (fun y => !decide (y.2 = .local) || decide (sc.names.lookup y.1 = some .local)) &&
  sc.names.all (fun y => !decide (y.2 = .free) || (decide (osc.names.lookup y.1 = some .cell) || decide (osc.names.lookup y.1 = some .free))) && decide (nt + idx.length = N'.length) &&
  (idx.zip (N'.drop nt)).all (fun p => decide (N[p.1]? = some p.2) && decide (sc.names.lookup p.2 = some .free))
theorem blk_ok {X : Cx} {N N' : List Str} {sc osc : Scope} {nt : Nat} {idx : List Nat} (h1 : X.env.scope = osc) (h2 : X.N = N) (h : chkB N N' sc osc nt idx = true) : BlkOk X N' sc nt idx := by
  unfold chkB at h
  simp only [Bool.and_eq_true, List.all_eq_true, decide_eq_true_eq, Bool.or_eq_true, Bool.not_eq_true', decide_eq_false_iff_not] at h
  obtain ⟨⟨⟨⟨⟨a, b⟩, c⟩, d⟩, e⟩, f⟩ := h
  refine ⟨a, b, fun y hy q => (c y hy).resolve_left (fun z => z q), fun y hy q => ?_, e, fun p hp => ?_⟩
  · have z := (d y hy).resolve_left (fun z => z q)
    unfold Env.kindOf
    rw [h1]
    exact z
  · rw [h2]; exact f p hp

def Bd (k : Nat) (i : Int) : Prop := i.natAbs < 2 ^ k
theorem Bd.mono {j k : Nat} {i : Int} (h : Bd j i) (e : j ≤ k) : Bd k i := Nat.lt_of_lt_of_le h (Nat.pow_le_pow_right (by decide) e)
theorem Bd.mul {j k : Nat} {a b : Int} (h : Bd j a) (g : Bd k b) : Bd (j + k) (a * b) := by
  unfold Bd at *
  rw [Int.natAbs_mul, Nat.pow_add]
  exact Nat.mul_lt_mul'' h g
theorem Bd.add {k : Nat} {a b : Int} (h : Bd k a) (g : Bd k b) : Bd (k + 1) (a + b) := by
  unfold Bd at *
  rw [Nat.pow_succ]
  have := Int.natAbs_add_le a b
  omega
theorem Bd.neg {k : Nat} {a : Int} (h : Bd k a) : Bd k (-a) := by
  unfold Bd at *
  rw [Int.natAbs_neg]; exact h
theorem Bd.sub {k : Nat} {a b : Int} (h : Bd k a) (g : Bd k b) : Bd (k + 1) (a - b) := by
  rw [Int.sub_eq_add_neg]; exact h.add g.neg
theorem Bd.le {k : Nat} {a b : Int} (h : Bd k b) (e : a.natAbs ≤ b.natAbs) : Bd k a := Nat.lt_of_le_of_lt e h

structure Low (o u n d : Int) : Prop where
  pos : 0 < d
  gcd : Int.gcd n d = 1
  eq : n * u = o * d
  le1 : n.natAbs ≤ o.natAbs
  le2 : d.natAbs ≤ u.natAbs
abbrev Drawn : List Int → List Int → Prop := Paired fun n l => 0 ≤ n ∧ n < l
end L2

set_option maxRecDepth 100000
set_option maxHeartbeats 4000000
namespace L2
open PySem PySem.Spec PySem.SeqAt PyProof.Rows
section
variable {X : Cx}
theorem bools_of {bs : List Bool} : ∀ {us : List Value}, Vals (bs.map V.bl) us → LSm.BoolsAre us bs := by
  induction bs with
  | nil => intro us r; rw [List.map_nil] at r; cases r; exact .nil
  | cons b bs ih =>
    intro us r
    rw [List.map_cons] at r
    cases r with
    | cons r1 r2 =>
      obtain rfl := (show _ = Value.bool b from r1)
      exact .cons b (ih r2)
def rAll (f : List Bool → Bool) : List V → Hp → VK → Prop := fun xs H Q => ∃ p bs, xs = [.ref p] ∧ H p = some (.lst (bs.map V.bl)) ∧ Q (.bl (f bs)) H
theorem call_allL (hc : X.calm = true) : CallR X (.builtin "all") (rAll fun bs => bs.all id) := by
  intro pins s σ H xs us Q I r h
  obtain ⟨p, bs, rfl, hp, q⟩ := h
  obtain ⟨u, rfl, ru⟩ := vals1 r
  cases ru
  obtain ⟨_, its, n, rv, ho⟩ := (show ObjOk X.prog X.w H s.heap p (.lst (bs.map V.bl)) from I.hok p _ hp)
  have hb := bools_of rv
  have hl : s.heap.IsList p its.toArray := ⟨_, ho, rfl, _, rfl⟩
  have hlt : p < s.heap.objs.size := Heap.lt_size ho
  refine call_all_walk (wpAny_pyIter_list hl ?_)
  refine ⟨s.heap.objs.size, [s.heap.objs.size, p], [s.heap.objs.size], its.toArray.size, _, _, fun i => (bs[i]?).getD true, rfl, Walks.list (A := X.A.in1) (I.ok.hd hc) _ p (Nat.ne_of_lt hlt) its.toArray,
    ⟨⟨_, Heap.get?_push_size _ rfl, rfl, rfl⟩, hl.push _⟩, fun i v s' Q' E' hP hQ => ?_, fun h' tk hk => ?_⟩
  · obtain ⟨b, e, rfl⟩ := hb.get i v (by simpa using hP)
    simp only [e, Option.getD_some] at hQ
    exact wpAny_truthy_bool hQ
  · have e : ((List.range its.toArray.size).all fun i => (bs[i]?).getD true) = bs.all id := by
      rw [List.size_toArray, hb.length]; exact LSm.range_all bs
    rw [e]
    exact ⟨.bl _, H, I.kept (h' := h') (t' := tk) (LSm.kept_iter hk), rfl, q⟩
end
section
variable {X : Cx} {K : PySem.W.Frag} {tg l o e : Expr} {es : List Expr} {tl to te : TE} {t : TA} {pos apos : Pos}
theorem ix_seqK (h : X.K = K) : IxR X (rIx K) := h ▸ ix_seq
def rLen (K : PySem.W.Frag) : List V → Hp → VK → Prop := fun xs H Q => ∃ p ys, xs = [.ref p] ∧ (SqL K H p ys ∨ SqT K H p ys) ∧ Q (.int ys.length) H
def rLenZ (K : PySem.W.Frag) : List V → Hp → VK → Prop := fun xs H Q => ∃ p ys, xs = [.ref p] ∧ (SqL K H p ys ∨ SqT K H p ys) ∧ (ys.length ≤ sizeLine → Q (.int ys.length) H)
theorem call_lenZ : CallR X (.builtin "len") (rLenZ X.K) := by
  intro pins s σ H xs us Q I r h
  obtain ⟨p, ys, e, hs, q⟩ := h
  have hz : ys.length ≤ sizeLine := by
    rcases hs with z | z
    · exact (I.list z).choose_spec.2.2
    · exact (I.tuple z).choose_spec.2.2
  exact call_len_seq pins s σ H xs us Q I r ⟨p, ys, e, hs, q hz⟩
end
theorem lp_range {lo : Int} {n : Nat} {g : TG} {tif : TT} {tin : TN} {σ : St} {H : Hp} {Q : Hp → Prop} (Pv : Nat → Hp → Prop) (h0 : Pv 0 H)
    (hs : ∀ i H, i < n → Pv i H → g (.int (lo + i)) σ H fun σ2 H2 => Wk σ σ2 ∧ tif σ2 H2 fun b H3 => if b = true then tin σ2 H3 (Pv (i + 1)) else Pv (i + 1) H3) (hd : ∀ H, Pv n H → Q H) : tLoop (Itr lo n) g tif tin σ H Q := by
  refine ⟨fun i m H => m = n - i ∧ i ≤ n ∧ Pv i H, ⟨n, by simp, Nat.zero_le _, h0⟩, ?_⟩
  rintro i m H ⟨rfl, hi, p⟩
  by_cases hlt : i < n
  · refine .inr ⟨hlt, Pv (i + 1), fun H' p' => ⟨n - (i + 1), by omega, rfl, hlt, p'⟩, fun x H' y => ?_⟩
    obtain ⟨e, y⟩ := y
    subst e y
    exact hs i _ hlt p
  · have e : i = n := by omega
    subst e
    exact .inl ⟨Nat.le_refl _, hd H p⟩
example (a b v : V) : Wk (sgb 1 [0, 1] [some a, some b]) ((sgb 1 [0, 1] [some a, some b]).set 0 (some v)) := ⟨rfl, rfl, trivial⟩
def tyN : PyData → String
  | .none => "NoneType"
  | .bool _ => "bool"
  | .int _ => "int"
  | .str _ => "str"
  | .list _ => "list"
  | .tuple _ => "tuple"
  | .dict _ => "dict"
theorem Rep.ty {K : PySem.W.Frag} {H : Hp} {v : V} {d : PyData} (r : Rep H v d) : TyOf K H v (.type (tyN d)) := by
  cases r with
  | non => exact .non
  | bl b => exact .bl b
  | int i => exact .int i
  | str x => exact .str x
  | lst h _ => exact .lst h
  | tup h _ => exact .tup h
theorem Rep.seq {K : PySem.W.Frag} {H : Hp} {v : V} {ds : List PyData} (r : Rep H v (.list ds) ∨ Rep H v (.tuple ds)) : ∃ a xs, v = .ref a ∧ (SqL K H a xs ∨ SqT K H a xs) ∧ RepAll H xs ds := by
  rcases r with r | r
  · cases r with | lst h t => exact ⟨_, _, rfl, .inl (SqL.of h), t⟩
  · cases r with | tup h t => exact ⟨_, _, rfl, .inr (SqT.of h), t⟩
end L2

set_option maxRecDepth 100000
set_option maxHeartbeats 4000000
namespace L2
open PySem PySem.Spec PySem.SeqAt PyProof.Rows
def Kp (fs : List Addr) (g h : Heap) : Prop := ∀ b o, g.get? b = some o → (b ∉ fs → h.get? b = some o) ∧ (b ∈ fs → ∃ sl, h.get? b = some { o with slots := sl })
theorem Kp.refl (fs : List Addr) (g : Heap) : Kp fs g g := fun b o e => ⟨fun _ => e, fun _ => ⟨o.slots, e⟩⟩
theorem Kp.trans {fs : List Addr} {g h k : Heap} (x : Kp fs g h) (y : Kp fs h k) : Kp fs g k := fun b o e => by
  refine ⟨fun hb => (y b o ((x b o e).1 hb)).1 hb, fun hb => ?_⟩
  obtain ⟨sl, e1⟩ := (x b o e).2 hb
  obtain ⟨sl2, e2⟩ := (y b _ e1).2 hb
  exact ⟨sl2, e2⟩
theorem Kp.of_keeps {fs : List Addr} {g h : Heap} (k : ∀ b o, g.get? b = some o → h.get? b = some o) : Kp fs g h := fun b o e => ⟨fun _ => k b o e, fun _ => ⟨o.slots, k b o e⟩⟩
def Fly (g : Heap) (fl : Value) (e : Addr) (cls : Value) (d : Option Addr) (a0 : Value) (h : Heap) : Prop :=
  g.get? e = none ∧ ∃ oe vs T oT ts, h.get? e = some oe ∧ oe.cls = cls ∧ oe.dict = d ∧ oe.data = .fields vs ∧ vs[0]? = some a0 ∧ vs[1]? = some (.ref T) ∧ T ≠ e ∧ g.get? T = none ∧ h.get? T = some oT ∧ oT.data = .fields ts ∧ ts[3]? = some fl
section
variable {M : Model} {A : Around} {E : Value → Shared → Prop} {s : Shared} {base g : Heap} {env : Env} {outer : List Env} {L e : Addr} {a0 : Value}
theorem entry_new {oe : Obj} {vs : Array Value} {head : Value} {hadNext : Bool} {Q : Unit → Shared → Prop} (hfr : A.frames = some (env :: outer)) (hl : s.heap.FunFrames base (env :: outer)) (hf : env.frame = some L)
    (he : s.heap.get? e = some oe) (hd : oe.data = .fields vs) (hsz : 1 < vs.size)
    (h : ∀ h' T oT ts, (∀ b o, s.heap.get? b = some o → b ≠ e → (b ∉ frs (env :: outer) → h'.get? b = some o) ∧ ∃ sl, h'.get? b = some { o with slots := sl }) → s.heap.get? T = none →
      h'.get? e = some (Obj.mapFields (·.setIfInBounds 1 (.ref T)) oe) → h'.get? T = some oT → oT.data = .fields ts → ts[3]? = some (rawInt L) → Q () { s with heap := h' }) :
    wpAny M A (do let a ← frameOf env; let pl ← entryPlaceOf L hadNext; let b ← EntryCells.newEntry head a .none (rawInt L) .none pl; setField (.ref e) 1 b) Q E s := by
  have hene : e ∉ (env :: outer).filterMap (·.frame) := fun hm => by
    obtain ⟨_, o, ho, hnf⟩ := hl.mem hm
    rw [he] at ho; cases ho; exact hnf vs hd
  refine wpAny_bind (wpAny_frameOf_fun hfr hl hf fun h1 hs1 => ?_)
  refine wpAny_bind (wpAny_entryPlaceOf fun pl hpl => ?_)
  unfold EntryCells.newEntry newFields
  refine wpAny_bind (wpAny_newObj_type ?_ (hpl.sizeOk5 _ _ _ _ _))
  have he1 : h1.get? e = some oe := (hs1.2.1 e hene).trans he
  refine wpAny_setField (Heap.get?_push_of_some _ he1) hd hsz ?_
  have hTe : h1.objs.size ≠ e := Nat.ne_of_gt (Heap.lt_size he1)
  refine h _ h1.objs.size _ _ (fun b o hb hbe => ?_) ?_ ?_ ((Heap.get?_update_other _ _ hTe.symm).trans (Heap.get?_push_size h1 rfl)) rfl ?_
  · have up : ∀ o', h1.get? b = some o' → ((h1.push { cls := .type "traceback", dict := none, data := .fields ([head, .ref L, .none, rawInt L, .none] ++ (if pl.isEmpty then List.replicate 6 Value.none else pl)).toArray }).update e (Obj.mapFields (·.setIfInBounds 1 (Value.ref h1.objs.size)))).get? b = some o' := fun o' q => by
      rw [Heap.get?_update_other _ _ hbe.symm]; exact Heap.get?_push_of_some _ q
    refine ⟨fun hn => up o ((hs1.2.1 b hn).trans hb), ?_⟩
    obtain ⟨sl, q⟩ := hs1.2.2 b o hb
    exact ⟨sl, up _ q⟩
  · cases q : s.heap.get? h1.objs.size with
    | none => rfl
    | some o =>
      obtain ⟨sl, q'⟩ := hs1.2.2 _ o q
      exact absurd (Heap.lt_size q') (Nat.lt_irrefl _)
  · exact Heap.get?_update_self _ (Heap.get?_push_of_some _ he1) (Obj.isFreed_of_fields (Obj.data_mapFields hd _))
  · first
      | (simp; done)
      | (rcases hpl with rfl | ⟨_, _, _, _, _, _, _, rfl⟩ <;> simp)
theorem mapFields_dict (f : Array Value → Array Value) (o : Obj) : (Obj.mapFields f o).dict = o.dict := by
  obtain ⟨c, d, dt, sl⟩ := o; cases dt <;> rfl
theorem note_first {oe : Obj} {vs : Array Value} {Q : Unit → Shared → Prop} (hfr : A.frames = some (env :: outer)) (hl : s.heap.FunFrames base (env :: outer)) (hf : env.frame = some L)
    (he : s.heap.get? e = some oe) (hd : oe.data = .fields vs) (h0 : vs[0]? = some a0) (h1 : vs[1]? = some .none) (hg : g.get? e = none) (hgs : Kp (frs (env :: outer)) g s.heap)
    (h : ∀ h', Kp (frs (env :: outer)) g h' → Fly g (rawInt L) e oe.cls oe.dict a0 h' → Q () { s with heap := h' }) : wpAny M A (noteFrame (.ref e) env) Q E s := by
  unfold noteFrame
  simp only [hf]
  refine wpAny_bind (wpAny_field he hd h1 ?_)
  rw [if_neg (by decide)]
  have sz := (Array.getElem?_eq_some_iff.mp h1).1
  refine entry_new hfr hl hf he hd sz fun h' T oT ts k kT ke kt kd k3 => h h' (fun b o q => ?_) ⟨hg, _, _, T, oT, ts, ke, Obj.cls_mapFields _ _, mapFields_dict _ _, Obj.data_mapFields hd _, by rw [Array.getElem?_setIfInBounds_ne (by decide)]; exact h0, by simp [sz], fun z => ?_, ?_, kt, kd, k3⟩
  · have hbe : b ≠ e := fun z => by rw [z, hg] at q; cases q
    refine ⟨fun hb => (k b o ((hgs b o q).1 hb) hbe).1 hb, fun hb => ?_⟩
    obtain ⟨sl, q1⟩ := (hgs b o q).2 hb
    obtain ⟨sl2, q2⟩ := (k b _ q1 hbe).2
    exact ⟨sl2, q2⟩
  · rw [z, he] at kT; cases kT
  · cases q : g.get? T with
    | none => rfl
    | some o =>
      exfalso
      by_cases hb : T ∈ frs (env :: outer)
      · obtain ⟨sl, q1⟩ := (hgs T o q).2 hb
        rw [kT] at q1; cases q1
      · have q1 := (hgs T o q).1 hb
        rw [kT] at q1; cases q1
theorem note_next {cls : Value} {d : Option Addr} {Q : Unit → Shared → Prop} (hfr : A.frames = some (env :: outer)) (hl : s.heap.FunFrames base (env :: outer)) (hf : env.frame = some L)
    (hF : Fly g .none e cls d a0 s.heap) (hgs : Kp (frs (env :: outer)) g s.heap)
    (h : ∀ h', Kp (frs (env :: outer)) g h' → Fly g (rawInt L) e cls d a0 h' → Q () { s with heap := h' }) : wpAny M A (noteFrame (.ref e) env) Q E s := by
  obtain ⟨hg, oe, vs, T, oT, ts, he, hc, hdd, hd, h0, h1, hTe, hgT, hT, hdT, h3⟩ := hF
  subst hc hdd
  unfold noteFrame
  simp only [hf]
  refine wpAny_bind (wpAny_field he hd h1 ?_)
  rw [if_pos (show (Value.ref T != Value.none) = true from by simp)]
  refine wpAny_bind (wpAny_field hT hdT h3 ?_)
  rw [if_neg (show ¬ ((Value.none == rawInt L) = true) from by simp [rawInt])]
  refine wpAny_bind (wpAny_setField hT hdT (Array.getElem?_eq_some_iff.mp h3).1 ?_)
  have other : ∀ b, b ≠ T → (s.heap.update T (Obj.mapFields (·.setIfInBounds 3 Value.none))).get? b = s.heap.get? b := fun b hb => Heap.get?_update_other _ _ (Ne.symm hb)
  have sz := (Array.getElem?_eq_some_iff.mp h1).1
  have keepF : (s.heap.update T (Obj.mapFields (·.setIfInBounds 3 Value.none))).FunFrames base (env :: outer) := hl.of_keeps fun b o hb hnf => ⟨o, (other b fun q => by rw [q, hT] at hb; cases hb; exact hnf ts hdT).trans hb, rfl⟩
  refine entry_new hfr keepF hf ((other e (Ne.symm hTe)).trans he) hd sz fun h' T2 oT2 ts2 k kT ke kt kd k3 => h h' (fun b o q => ?_) ⟨hg, _, _, T2, oT2, ts2, ke, Obj.cls_mapFields _ _, mapFields_dict _ _, Obj.data_mapFields hd _, by rw [Array.getElem?_setIfInBounds_ne (by decide)]; exact h0, by simp [sz], fun z => ?_, ?_, kt, kd, k3⟩
  · have hbe : b ≠ e := fun z => by rw [z, hg] at q; cases q
    have hbT : b ≠ T := fun z => by rw [z, hgT] at q; cases q
    refine ⟨fun hb => (k b o ((other b hbT).trans ((hgs b o q).1 hb)) hbe).1 hb, fun hb => ?_⟩
    obtain ⟨sl, q1⟩ := (hgs b o q).2 hb
    obtain ⟨sl2, q2⟩ := (k b _ ((other b hbT).trans q1) hbe).2
    exact ⟨sl2, q2⟩
  · rw [z, other e (Ne.symm hTe), he] at kT; cases kT
  · cases q : g.get? T2 with
    | none => rfl
    | some o =>
      exfalso
      have hbT : T2 ≠ T := fun z => by rw [z, hgT] at q; cases q
      rw [other _ hbT] at kT
      by_cases hb : T2 ∈ frs (env :: outer)
      · obtain ⟨sl, q1⟩ := (hgs T2 o q).2 hb
        rw [kT] at q1; cases q1
      · have q1 := (hgs T2 o q).1 hb
        rw [kT] at q1; cases q1
theorem set_none {fs : List Addr} {cls fl : Value} {d : Option Addr} {Q : Unit → Shared → Prop} (hF : Fly g fl e cls d a0 s.heap) (hgs : Kp fs g s.heap)
    (h : ∀ h', Kp fs g h' → Fly g .none e cls d a0 h' → Q () { s with heap := h' }) : wpAny M A (setFlight (.ref e) none) Q E s := by
  obtain ⟨hg, oe, vs, T, oT, ts, he, hc, hdd, hd, h0, h1, hTe, hgT, hT, hdT, h3⟩ := hF
  have sz := (Array.getElem?_eq_some_iff.mp h3).1
  have other : ∀ b, b ≠ T → (s.heap.update T (Obj.mapFields (·.setIfInBounds 3 ((none : Option Addr).elim Value.none fun f => rawInt f)))).get? b = s.heap.get? b := fun b hb => Heap.get?_update_other _ _ (Ne.symm hb)
  unfold setFlight
  refine wpAny_bind (wpAny_field he hd h1 ?_)
  rw [if_pos (show (Value.ref T != Value.none) = true from by simp)]
  refine wpAny_setField hT hdT sz (h _ (fun b o q => ?_) ?_)
  · have hbT : b ≠ T := fun z => by rw [z, hgT] at q; cases q
    exact ⟨fun hb => (other b hbT).trans ((hgs b o q).1 hb), fun hb => let ⟨sl, q1⟩ := (hgs b o q).2 hb; ⟨sl, (other b hbT).trans q1⟩⟩
  · exact ⟨hg, oe, vs, T, _, _, (other e (Ne.symm hTe)).trans he, hc, hdd, hd, h0, h1, hTe, hgT, Heap.get?_update_self _ hT (Obj.isFreed_of_fields (Obj.data_mapFields hdT _)), Obj.data_mapFields hdT _, by simp [sz]⟩
theorem leave_first {oe : Obj} {vs : Array Value} {Q : Unit → Shared → Prop} (hfr : A.frames = some (env :: outer)) (hl : s.heap.FunFrames base (env :: outer)) (hf : env.frame = some L)
    (he : s.heap.get? e = some oe) (hd : oe.data = .fields vs) (h0 : vs[0]? = some a0) (h1 : vs[1]? = some .none) (hg : g.get? e = none) (hgs : Kp (frs (env :: outer)) g s.heap)
    (h : ∀ h', Kp (frs (env :: outer)) g h' → Fly g .none e oe.cls oe.dict a0 h' → Q () { s with heap := h' }) : wpAny M A (leaving env (.ref e)) Q E s := by
  unfold leaving
  exact wpAny_bind (note_first hfr hl hf he hd h0 h1 hg hgs fun h' k F => set_none (s := { s with heap := h' }) F k fun h'' k2 F2 => h h'' k2 F2)
theorem leave_next {cls : Value} {d : Option Addr} {Q : Unit → Shared → Prop} (hfr : A.frames = some (env :: outer)) (hl : s.heap.FunFrames base (env :: outer)) (hf : env.frame = some L)
    (hF : Fly g .none e cls d a0 s.heap) (hgs : Kp (frs (env :: outer)) g s.heap)
    (h : ∀ h', Kp (frs (env :: outer)) g h' → Fly g .none e cls d a0 h' → Q () { s with heap := h' }) : wpAny M A (leaving env (.ref e)) Q E s := by
  unfold leaving
  exact wpAny_bind (note_next hfr hl hf hF hgs fun h' k F => set_none (s := { s with heap := h' }) F k fun h'' k2 F2 => h h'' k2 F2)
end
end L2

set_option maxRecDepth 100000
set_option maxHeartbeats 4000000
namespace L2
open PySem PySem.Spec PySem.SeqAt PyProof.Rows
structure Ord (bm : List Value) : Prop where
  v : bm.contains (.type "ValueError") = true
  b : bm.contains (.type "BaseException") = true
  a : bm.contains (.type "AttributeError") = false
  n : bm.contains (.type "NameError") = false
theorem Ord.cv {bm : List Value} (T : Ord bm) (C : Addr) : (Value.ref C :: bm).contains (.type "ValueError") = true := by rw [List.contains_cons, T.v, Bool.or_true]
theorem Ord.cb {bm : List Value} (T : Ord bm) (C : Addr) : (Value.ref C :: bm).contains (.type "BaseException") = true := by rw [List.contains_cons, T.b, Bool.or_true]
theorem Ord.ca {bm : List Value} (T : Ord bm) (C : Addr) : (Value.ref C :: bm).contains (.type "AttributeError") = false := by rw [List.contains_cons, T.a]; rfl
theorem Ord.cn {bm : List Value} (T : Ord bm) (C : Addr) : (Value.ref C :: bm).contains (.type "NameError") = false := by rw [List.contains_cons, T.n]; rfl
abbrev VF := PySem.F.excBase_ValueError
abbrev excO (C t : Addr) (d : Option Addr) : Obj := { cls := .ref C, dict := d, data := .fields #[.ref t, .none, .none, .none, .bool false, .none] }
section
variable {prog : Program} {w : World} {A : Around} {E : Value → Shared → Prop} {h : Heap} {g : Array GenState} {d : PySem.Drawn} {t : Nat} {os : OsState}
variable {nm q : Str} {C N : Addr} {bs bm : List Value} {hdct : Bool} {sn : List Str} {sub : List Value} {ab : Bool} {col : Option Bool} {dd : Option Addr} {k0 k1 k2 k3 k5 : Option Value}
theorem xc_new {R : Result → Shared → Prop} {rest : List Value} (T : Ord bm) (hC : h.get? C = some (excClassObj nm q C N bs bm hdct sn sub ab col dd k0 k1 k2 k3 k5 "ValueError.__new__"))
    (hq : R (.ok (.ret (.ref (h.objs.size + 1)))) ⟨(h.push { cls := .type "tuple", data := .seq rest.toArray }).push (excO C h.objs.size none), g, d, t, os⟩) (hrest : rest.length ≤ sizeLine := by size_fits) :
    codeAny (model prog w) A (.builtin "ValueError.__new__" ⟨.ref C :: rest, []⟩) R ⟨h, g, d, t, os⟩ := by
  have hends := VF.ends
  have c1 := T.cv C
  have c2 := T.ca C
  have c3 := T.cn C
  refine codeAny_builtinAt VF.entry ?_
  unfold Builtin.«BaseException.__new__»
  refine PySem.wpAt_bind ?_
  show PySem.wpAt _ _ _ (stack >>= _) _ _ _
  refine PySem.wpAt_bind (PySem.wpAt_stack fun p below => PySem.wpAt_of_wpAny ?_)
  wp_walk
  refine PySem.wpAt_of_wpAny ?_
  rw [VF.owner]
  repeat (first | with_reducible refine wpAny_madeHere_exc VF.canon hC ?_ | with_reducible refine wpAny_loadPart_at hC ?_ | (with_reducible refine wpAny_isSubtype_exc hC ?_; first | rw [c1] | rw [c2] | rw [c3]) | wp_step)
  show R _ _
  rw [Heap.size_push]
  exact hq
theorem xc_check {M : Model} {rest : List Value} {Q : Unit → Shared → Prop} (T : Ord bm) (hC : h.get? C = some (excClassObj nm q C N bs bm hdct sn sub ab col dd k0 k1 k2 k3 k5 "ValueError.__new__"))
    (hq : Q () ⟨h, g, d, t, os⟩) : wpAny M A (checkBuiltinCall "ValueError.__new__" ⟨.ref C :: rest, []⟩) Q E ⟨h, g, d, t, os⟩ := by
  have c1 := T.cv C
  have hstar := VF.noStar
  simp only [checkBuiltinCall, VF.newKind, VF.newSplit, VF.newRow]
  repeat (first | refine wpAny_loadPart_at hC ?_ | (refine wpAny_isSubtype_exc hC ?_; rw [c1]) | refine wpAny_staticBase_exc hC ?_ | refine wpAny_madeBy_exc hC ?_ | simp only [bne_self_eq_false, Bool.false_eq_true, if_false] | wp_step)
  exact hq
theorem xc_call {rest : List Value} {fI : Addr} {Q : Value → Shared → Prop} (T : Ord bm) (hC : h.get? C = some (excClassObj nm q C N bs bm hdct sn sub ab col dd k0 k1 k2 k3 k5 "ValueError.__new__"))
    (hi : PySem.W.Looks (model prog w) h (typeLookup (.ref C) "__init__") (some (.ref fI))) (hb : ∀ self, PySem.W.Looks (model prog w) h (bindSpecial (.ref fI) self) (.ref fI, [self]))
    (hq : wpAny (model prog w) (A.under (.builtin "type.__call__" ⟨.ref C :: rest, []⟩)) (call (.ref fI) (.ref (h.objs.size + 1) :: rest)) (fun r s' => r = .none ∧ Q (.ref (h.objs.size + 1)) s') E
      ⟨(h.push { cls := .type "tuple", data := .seq rest.toArray }).push (excO C h.objs.size none), g, d, t, os⟩) (hrest : rest.length ≤ sizeLine := by size_fits) :
    wpAny (model prog w) A (call (.ref C) rest) Q E ⟨h, g, d, t, os⟩ := by
  have f1 := tc_lookup
  have f2 := tc_bind (.ref C)
  have hT : (⟨h, g, d, t, os⟩ : Shared).TypeIs (.ref C) "type" := ⟨_, hC, rfl⟩
  refine wpAny_call (codeAny_of_tree ?_)
  show wpAny _ _ (callAny (.ref C) _) _ _ _
  repeat (any_goals (first | assumption | with_reducible refine wpAny_loadPart_at hC ?_ | wp_step))
  refine ⟨rfl, ?_⟩
  refine codeAny_call_builtin_at (Code.quiet_builtin _ (by decide +kernel)) entry_typeCall (wpAny_check_type_call_sub hC ?_)
  repeat (first | with_reducible refine wpAny_loadPart_at hC ?_ | with_reducible refine wpAny_madeBy_exc hC ?_ | wp_step)
  refine codeAny_call_builtin_code (Code.quiet_builtin _ VF.quiet) (xc_check T hC ?_)
  refine xc_new T hC ?_ hrest
  show wpAny _ _ _ _ _ _
  have k : ∀ b o, h.get? b = some o → ((h.push { cls := .type "tuple", data := .seq rest.toArray }).push (excO C h.objs.size none)).get? b = some o := fun b o e => Heap.get?_push_of_some _ (Heap.get?_push_of_some _ e)
  have hC1 := k _ _ hC
  have hget : ((h.push { cls := .type "tuple", data := .seq rest.toArray }).push (excO C h.objs.size none)).get? (h.objs.size + 1) = some (excO C h.objs.size none) := by heap_get
  have hcC : (Value.ref C :: bm).contains (.ref C) = true := by simp
  unfold isInstance
  repeat (first | with_reducible refine wpAny_loadPart_at hget ?_ | wp_step)
  show wpAny _ _ (isSubtype (.ref C) (.ref C)) _ _ _
  refine wpAny_isSubtype_exc hC1 ?_
  rw [hcC]
  repeat (first | with_reducible refine wpAny_loadPart_at hget ?_ | wp_step)
  show wpAny _ _ (typeLookup (.ref C) _) _ _ _
  refine (hi.keeps k).here ?_
  refine wpAny_holding (wpAny_bind (((hb _).keeps k).here ?_))
  refine wpAny_bind (wpAny_mono hq (fun r s' hr => ?_) fun _ _ x => x)
  obtain ⟨rfl, hQ⟩ := hr
  wp_walk
  exact hQ
end
end L2

set_option maxRecDepth 100000
set_option maxHeartbeats 4000000
namespace L2
open PySem PySem.Spec PySem.SeqAt PyProof.Rows
open PySem.Builtin.ObjectAttr
abbrev bmV : List Value := [.type "ValueError", .type "Exception", .type "BaseException", .type "object"]
theorem refuse_bmV (self : Value) : refuseLoop self "__setattr__" bmV = pure () := by
  kernel_rfl
theorem refuse_own (self : Value) : ∀ as : List Addr, refuseLoop self "__setattr__" (as.map Value.ref ++ bmV) = pure ()
  | [] => refuse_bmV self
  | c :: r => by rw [List.map_cons, List.cons_append, refuseLoop_ref]; exact refuse_own self r
theorem own_has : ∀ as : List Addr, (as.map Value.ref ++ bmV).contains (.type "object") = true
  | [] => by decide
  | c :: r => by rw [List.map_cons, List.cons_append, List.contains_cons, own_has r, Bool.or_true]
section
variable {prog : Program} {w : World} {A : Around} {E : Value → Shared → Prop} {s : Shared} {K : PySem.W.Frag} {C e t : Addr} {v : Value} {name : Str} {cd : ClassData} {as : List Addr}
theorem set_exc {Q : Unit → Shared → Prop} (X : K.In s.heap) (hx : s.heap.get? e = some (excO C t none)) (hc : PySem.W.clsIn K C = some cd) (hm : cd.mro = as.map Value.ref ++ bmV) (hd : cd.hasDict = true)
    (hs : PySem.W.findIn K (.ref C) "__setattr__" = some (some (.builtin "object.__setattr__"))) (ht : PySem.W.findIn K (.ref C) name = some none)
    (h : ∀ h' dx, s.heap.get? dx = none → h'.Ns1 dx (fun y => if y = name then some v else none) → h'.get? e = some (excO C t (some dx)) → (∀ b o, b ≠ e → s.heap.get? b = some o → h'.get? b = some o) → Q () { s with heap := h', toks := s.toks + 2 }) :
    wpAny (model prog w) A (setAttr (.ref e) name v) Q E s := by
  have SF := PySem.F.store_object
  have J : PySem.W.InstAt s.heap e (excO C t none) C none := ⟨hx, rfl, rfl, trivial⟩
  have J1 : PySem.W.InstAt ({ s with toks := s.toks + 1 } : Shared).heap e (excO C t none) C none := J
  have ne : cd.mro.isEmpty = false := by rw [hm]; cases as <;> rfl
  have sub : PySem.W.Looks (model prog w) s.heap (isInstance (.ref e) (.type "object")) true := J.type.andThen (PySem.W.looks_mroIn X (by unfold PySem.W.mroIn; rw [hc, Option.bind_some, if_neg (by rw [ne]; decide), hm, own_has as]))
  refine PySem.W.set_plain X J hs ?_
  refine codeAny_call_builtin SF.slot.plain SF.entry (@PySem.W.check_slot (model prog w) _ _ { s with toks := s.toks + 1 } "object.__setattr__" "object" "__setattr__" (.ref e) [.str name s.toks, v] [] _ SF.kind SF.split sub (SF.args (.ref e) (.str name s.toks) v) ?_)
  have hmro : PySem.W.Looks (model prog w) s.heap (mroOf (.ref C)) cd.mro := (PySem.W.looks_clsIn X hc).andThen .now
  rw [PySem.W.osa_eq, refuse_eq]
  refine wpAny_bind (wpAny_bind (J1.type.here (wpAny_bind (PySem.W.Looks.here (s := { s with toks := s.toks + 1 }) hmro ?_))))
  rw [hm, refuse_own]
  refine wpAny_pure (wpAny_bind (J1.type.here (wpAny_bind (PySem.W.Looks.here (s := { s with toks := s.toks + 1 }) (PySem.W.looks_findIn X ht) (wpAny_bind (wpAny_pure ?_))))))
  show wpAny _ _ (storeInOwnDict (.ref e) (.ref C) (.str name s.toks) name v false) _ _ _
  refine wpAny_bind (wpAny_pure (wpAny_bind ?_))
  show wpAny _ _ (instanceDict e true) _ _ _
  unfold instanceDict
  refine wpAny_bind (wpAny_loadPart (s := { s with toks := s.toks + 1 }) hx (wpAny_bind (PySem.W.Looks.here (s := { s with toks := s.toks + 1 }) (PySem.W.looks_clsIn X hc) ?_)))
  rw [hd]
  show wpAny _ _ (alloc { cls := .type "dict", data := .dict #[] } >>= fun d => update e (fun o => { o with dict := some d }) >>= fun _ => dictMade (.ref C) e d) _ _ _
  refine wpAny_bind (wpAny_alloc (wpAny_bind (wpAny_update (o := excO C t none) (Heap.get?_push_of_some _ hx) (wpAny_pure ?_))))
  have hlt : e < s.heap.objs.size := Heap.lt_size hx
  have hE : ((s.heap.push PySem.W.emptyDict).update e (fun o => { o with dict := some s.heap.objs.size })).get? e = some (excO C t (some s.heap.objs.size)) := Heap.get?_update_self _ (Heap.get?_push_of_some _ hx) rfl
  have hD : ((s.heap.push PySem.W.emptyDict).update e (fun o => { o with dict := some s.heap.objs.size })).get? s.heap.objs.size = some PySem.W.emptyDict := (Heap.get?_update_other _ _ (Nat.ne_of_lt hlt)).trans (Heap.get?_push_size _ rfl)
  have hn : ((s.heap.push PySem.W.emptyDict).update e (fun o => { o with dict := some s.heap.objs.size })).Ns1 s.heap.objs.size (fun _ => none) :=
    Heap.Ns1.of_empty ⟨PySem.W.emptyDict, #[], _, hD, rfl, (fun e he => absurd he (by simp)), fun _ => rfl⟩
  show wpAny _ _ (storeInDict s.heap.objs.size (.str name s.toks) name v) _ _ _
  refine wpAny_bind (wpAny_pure (wpAny_bind ?_))
  refine wpAny_nsSet1 (s := { s with heap := (s.heap.push PySem.W.emptyDict).update e (fun o => { o with dict := some s.heap.objs.size }), toks := s.toks + 1 }) hn fun h' hn2 hs2 => ?_
  obtain ⟨oD, esD, epD, hoD, hdD, hcD⟩ := hn2.count (PySem.Within.cons name v (ns := []) (fun _ z => absurd rfl z))
  refine wpAny_bind (wpAny_lookBehind hoD (by rw [hdD]; exact pastItsLine_dict (Nat.le_trans hcD (by show 1 ≤ sizeLine + 1; exact Nat.le_add_left 1 _))) ?_)
  refine wpAny_pure (h h' s.heap.objs.size (Heap.get?_none_of_le (Nat.le_refl _)) hn2 ((hs2.2 _ (Nat.ne_of_lt hlt)).trans hE) fun b o hb q => ?_)
  refine (hs2.2 b (Nat.ne_of_lt (Heap.lt_size q))).trans ((Heap.get?_update_other _ _ (Ne.symm hb)).trans (Heap.get?_push_of_some _ q))
end
section
variable {prog : Program} {w : World} {A : Around} {E : Value → Shared → Prop} {h : Heap} {g : Array GenState} {d : PySem.Drawn} {t : Nat} {os : OsState}
variable {nm q : Str} {C N e ta : Addr} {bs bm : List Value} {hdct : Bool} {sn : List Str} {sub : List Value} {ab : Bool} {col : Option Bool} {dd od : Option Addr} {k0 k1 k2 k3 k5 : Option Value}
theorem init_exc {rest : List Value} {Q : Value → Shared → Prop} (T : Ord bm) (hC : h.get? C = some (excClassObj nm q C N bs bm hdct sn sub ab col dd k0 k1 k2 k3 k5 "ValueError.__new__")) (he : h.get? e = some (excO C ta od))
    (hq : ∀ h', h'.get? e = some (excO C h.objs.size od) → (∀ b o, b ≠ e → h.get? b = some o → h'.get? b = some o) → Q .none ⟨h', g, d, t, os⟩) (hrest : rest.length ≤ sizeLine := by size_fits) :
    wpAny (model prog w) A (call (.builtin "ValueError.__init__") (.ref e :: rest)) Q E ⟨h, g, d, t, os⟩ := by
  have c1 := T.cv C
  have hstar := VF.noStar
  refine wpAny_call (codeAny_call_builtin VF.init.plain VF.initEntry ?_)
  simp only [checkBuiltinCall, VF.initKind, VF.initSplit, VF.initRow]
  have hcls : (excO C ta od).cls = .ref C := rfl
  repeat (first | (with_reducible refine wpAny_loadPart_at he ?_; rw [hcls]) | with_reducible refine wpAny_loadPart_at hC ?_ | (with_reducible refine wpAny_isSubtype_exc hC ?_; rw [c1]) | wp_step)
  refine wpAny_onRaise ?_
  rw [show ∀ (a b : String) (n : Nat), Bind.check ⟨.positional, "*", "ValueError", .self, [⟨"args", .varPos, false⟩]⟩ a b n (List.map (fun x => x.fst) ({ pos := Value.ref e :: rest } : Args).kw) = pure () from
    fun a b n => check_star_args _ _ _ _ _ _]
  refine wpAny_pure ?_
  have hlt := Heap.lt_size he
  wp_walk
  refine hq _ (Heap.get?_update_self _ (Heap.get?_push_of_some _ he) rfl) fun b o hb z => ?_
  exact (Heap.get?_update_other _ _ (Ne.symm hb)).trans (Heap.get?_push_of_some _ z)
end
end L2

set_option maxRecDepth 100000
set_option maxHeartbeats 4000000
namespace L2
open PySem PySem.Spec PySem.SeqAt PyProof.Rows
section
variable {prog : Program} {w : World} {A : Around} {E : Value → Shared → Prop} {h : Heap} {g : Array GenState} {d : PySem.Drawn} {t : Nat} {os : OsState}
variable {nm q : Str} {C N e dx : Addr} {bs bm : List Value} {hdct : Bool} {sn : List Str} {sub : List Value} {ab : Bool} {col : Option Bool} {dd : Option Addr} {k0 k1 k2 k3 k5 : Option Value} {K : PySem.W.Frag} {cd : ClassData}
theorem get_exc {name : Str} {v : Value} {oe : Obj} {mA : Str → Option Value} {expr : Bool} {Q : Value → Shared → Prop} (X : K.In h) (T : Ord bm) (hC : h.get? C = some (excClassObj nm q C N bs bm hdct sn sub ab col dd k0 k1 k2 k3 k5 "ValueError.__new__"))
    (g1 : PySem.W.findIn K (.ref C) "__getattribute__" = some (some (.builtin "BaseException.__getattribute__"))) (g2 : PySem.W.findIn K (.ref C) "__getattr__" = some none) (g3 : PySem.W.findIn K (.ref C) name = some none)
    (hcls : PySem.W.clsIn K C = some cd) (hcd : cd.hasDict = true) {vs : Array Value} (hx : h.get? e = some oe) (hc : oe.cls = .ref C) (hfd : oe.data = .fields vs) (hdi : oe.dict = some dx) (hn : h.Ns1 dx mA) (hv : mA name = some v) (hh : PySem.W.handedIn v = true)
    (hq : Q v ⟨h, g, d, t + 1, os⟩) : wpAny (model prog w) A (getAttr (.ref e) name expr) Q E ⟨h, g, d, t, os⟩ := by
  have FB := PySem.F.attrBase_ValueError
  have f3 := FB.ga.bind (.ref e)
  have L1 := PySem.W.looks_findIn (M := model prog w) X g1
  have L2 := PySem.W.looks_findIn (M := model prog w) X g2
  have L3 := PySem.W.looks_findIn (M := model prog w) X g3
  have hx0 : (expr && onTheHeap (Value.builtin "BaseException.__getattribute__")) = false := by cases expr <;> rfl
  have hx2 : (Value.builtin "BaseException.__getattribute__" == Value.builtin "object.__getattribute__") = false := by decide +kernel
  have hx1 : (onTheHeap (Value.ref C) && Value.builtin "BaseException.__getattribute__" == Value.builtin "object.__getattribute__") = false := by rw [hx2]; rfl
  have cb := T.cb C
  unfold getAttr
  repeat (any_goals (first | assumption | (with_reducible refine wpAny_loadPart_at hx ?_; rw [hc]) | with_reducible refine PySem.W.Looks.here L1 ?_ | with_reducible refine PySem.W.Looks.here L2 ?_ | wp_step))
  refine codeAny_call_builtin FB.ga.plain PySem.F.entry_bexc_ga ?_
  have hk : builtinKind "BaseException.__getattribute__" = some .slot := by decide +kernel
  have hsplit : splitId "BaseException.__getattribute__" = some ("BaseException", "__getattribute__") := by decide +kernel
  have ha := PySem.F.args_bexc_ga (.ref e) (.str name t)
  simp only [checkBuiltinCall, hk, hsplit]
  refine wpAny_bind ?_
  unfold isInstance
  repeat (first | (with_reducible refine wpAny_loadPart_at hx ?_; rw [hc]) | (with_reducible refine wpAny_isSubtype_exc hC ?_; rw [cb]) | wp_step)
  repeat (any_goals (first | assumption | (with_reducible refine wpAny_loadPart_at hx ?_; rw [hc]) | with_reducible refine PySem.W.Looks.here L3 ?_ | wp_step))
  rw [hfd]
  show wpAny _ _ (instanceDict e false) _ _ _
  unfold instanceDict
  refine wpAny_bind (wpAny_loadPart_at hx ?_)
  rw [hc, hdi]
  refine wpAny_bind (PySem.W.Looks.here (PySem.W.looks_clsIn X hcls) ?_)
  rw [hcd]
  refine wpAny_pure ?_
  show wpAny _ _ (Builtin.ObjectAttr.inDict name (some dx)) _ _ _
  unfold Builtin.ObjectAttr.inDict
  refine wpAny_nsGet hn.ns ?_
  rw [hv]
  refine wpAny_bind (wpAny_rule (wpAny_pure (wpAny_pure ?_)))
  show wpAny _ _ (handedOut v) _ _ _
  rw [PySem.W.handedOut_of hh]
  exact wpAny_pure hq
end
end L2

set_option maxRecDepth 100000
set_option maxHeartbeats 4000000
namespace L2
open PySem PySem.Spec PySem.SeqAt PyProof.Rows
structure Sup (H' : Hp) (h0 g h : Heap) : Prop where
  sub : ∀ b o, g.get? b = some o → h.get? b = some o
  old : ∀ b o, h.get? b = some o → ((∃ o0, h0.get? b = some o0) ∨ ∃ u, H' b = some u) → g.get? b = some o
def CXE (P : Program) (w : World) : CXT := fun outer H s E ev s' => ∃ (e : Addr) (C : Value) (d : Option Addr) (a0 : Value) (H' : Hp) (g : Heap), ev = .ref e ∧ s'.os = s.os ∧ AllBare s'.gens ∧
  Un (frs outer) [] H H' s.heap s'.heap ∧ HOk P w H' s'.heap ∧ Fly g .none e C d a0 s'.heap ∧ Sup H' s.heap g s'.heap ∧ E C d H'
theorem cxe_none {P : Program} {w : World} {outer : List Env} {H : Hp} {s s' : Shared} {e : Value} : ¬ CXE P w outer H s (fun _ _ _ => False) e s' := fun ⟨_, _, _, _, _, _, _, _, _, _, _, _, _, h⟩ => h
theorem ObjOk.get {P : Program} {w : World} {H : Hp} {h : Heap} {a : Addr} {o : HO} (x : ObjOk P w H h a o) : ∃ ob, h.get? a = some ob := by
  cases o with
  | lst xs => obtain ⟨_, _, _, _, e⟩ := x; exact ⟨_, e⟩
  | tup xs => obtain ⟨_, _, _, ob, e, _⟩ := x; exact ⟨_, e⟩
  | dK kvs => obtain ⟨_, _, _, _, o, _, _, e, _⟩ := x; exact ⟨_, e⟩
  | dT kvs => obtain ⟨_, _, _, _, o, _, _, e, _⟩ := x; exact ⟨_, e⟩
  | set S n => obtain ⟨o, _, _, _, e, _⟩ := x; exact ⟨_, e⟩
  | ins C dx fs => obtain ⟨_, _, _, e, _⟩ := x; exact ⟨_, e⟩
  | own y => obtain ⟨_, e⟩ := x; exact ⟨_, e⟩
  | xd fs => obtain ⟨_, ⟨_, _, _, e, _⟩, _⟩ := x; exact ⟨_, e⟩
  | rng lo hi => obtain ⟨_, _, _, e⟩ := x; exact ⟨_, e⟩
  | frz ob u => obtain ⟨e, _⟩ := x; exact ⟨_, e⟩
  | tbl ps => exact ⟨_, (show h.get? a = some _ from x)⟩
  | met f y => exact ⟨_, (show h.get? a = some _ from x)⟩
  | ext φ => obtain ⟨_, ⟨_, e⟩, _⟩ := x; exact ⟨_, e⟩
def only (g h : Heap) : Heap := PySem.W.hideAll h ((List.range h.objs.size).filter fun b => (g.get? b).isNone)
theorem only_none {g h : Heap} {b : Addr} (hb : g.get? b = none) : (only g h).get? b = none := by
  cases q : (only g h).get? b with
  | none => rfl
  | some o =>
    have e : h.get? b = some o := PySem.W.of_hideAll _ q
    have hm : b ∈ (List.range h.objs.size).filter fun b => (g.get? b).isNone := List.mem_filter.mpr ⟨List.mem_range.mpr (Heap.lt_size e), by rw [hb]; rfl⟩
    have q2 : (only g h).get? b = none := PySem.W.hideAll_none _ hm
    rw [q] at q2; cases q2
theorem only_get {g h : Heap} {b : Addr} {o o' : Obj} (e : h.get? b = some o) (hb : g.get? b = some o') : (only g h).get? b = some o := by
  refine PySem.W.hideAll_get _ e fun hm => ?_
  have := (List.mem_filter.mp hm).2
  rw [hb] at this; cases this
theorem of_only {g h : Heap} {b : Addr} {o : Obj} (e : (only g h).get? b = some o) : h.get? b = some o := PySem.W.of_hideAll _ e
theorem Fly.only {g h : Heap} {fl : Value} {e : Addr} {C : Value} {d : Option Addr} {a0 : Value} (F : Fly g fl e C d a0 h) : Fly (only g h) fl e C d a0 h := by
  obtain ⟨hg, oe, vs, T, oT, ts, h1, h2, h3, h4, h5, h6, h7, h8, r⟩ := F
  exact ⟨only_none hg, oe, vs, T, oT, ts, h1, h2, h3, h4, h5, h6, h7, only_none h8, r⟩
theorem frs_cons {env : Env} {outer : List Env} {L : Addr} (h : env.frame = some L) : frs (env :: outer) = L :: frs outer := by
  unfold frs; rw [List.filterMap_cons, h]
structure Own (X : Cx) : Prop where
  ex : X.ex = []
  st : X.stack = X.env :: X.outer
  fr : X.env.frame = some X.env.locals
section
variable {X : Cx} {pins : List (Addr × Obj)} {σ : St} {H H' : Hp} {s s' : Shared} {E : XK} {e : Addr} {C : Value} {d : Option Addr} {a0 : Value} {g h' : Heap}
theorem Own.frs (O : Own X) : L2.frs X.stack = X.env.locals :: X.fs := by rw [O.st, frs_cons O.fr]
theorem Inv.there0 (I : Inv X pins σ H s) (O : Own X) {b : Addr} {o : Obj} (q : X.s₀.heap.get? b = some o) : ∃ o', s.heap.get? b = some o' := I.base.there b o q (by rw [O.ex]; simp)
theorem fun_un {fs : List Addr} {base h h' : Heap} {l : List Env} (u : Un fs [] H H' h h') (hs : ∀ b ∈ L2.frs l, b ∈ fs) (hf : ∀ b ∈ L2.frs l, H b = none) (hl : h.FunFrames base l) : h'.FunFrames base l := by
  induction l with
  | nil => trivial
  | cons env rest ih =>
    obtain ⟨hk, ⟨L, o, hfr, hn, ho, hd⟩, hr⟩ := hl
    have hm : L ∈ L2.frs (env :: rest) := by rw [frs_cons hfr]; exact List.mem_cons_self
    obtain ⟨sl, e⟩ := u.slot L o ho (hf L hm) (hs L hm) (by simp)
    exact ⟨hk, ⟨L, _, hfr, hn, e, hd⟩, ih (fun b hb => hs b (by rw [frs_cons hfr]; exact List.mem_cons_of_mem _ hb)) (fun b hb => hf b (by rw [frs_cons hfr]; exact List.mem_cons_of_mem _ hb)) hr⟩
theorem cxe_of (O : Own X) (I : Inv X pins σ H s) (hos : s'.os = s.os) (hb : AllBare s'.gens) (u : Un (L2.frs X.stack) [] H H' s.heap s'.heap) (ok : HOk X.prog X.w H' s'.heap)
    (sup : Sup H' X.s₀.heap g s'.heap) (k : Kp (L2.frs X.stack) g h') (F : Fly g .none e C d a0 h') (hE : E C d H') : CXE X.prog X.w X.outer X.H₀ X.s₀ E (.ref e) { s' with heap := h' } := by
  have b0 : Un X.fs [] X.H₀ H X.s₀.heap s.heap := by have := I.base; rw [O.ex] at this; exact this
  have fr := O.frs
  rw [fr] at u k
  have u0 : Un (X.env.locals :: X.fs) [] X.H₀ H' X.s₀.heap s'.heap := (b0.mono (fun b hb => List.mem_cons_of_mem _ hb) fun _ h => h).trans u
  have hL : X.s₀.heap.get? X.env.locals = none := Heap.get?_none_of_le I.ok.above
  have neL : ∀ {b o}, X.s₀.heap.get? b = some o → b ≠ X.env.locals := fun q z => by rw [z, hL] at q; cases q
  have nof : ∀ b u', H' b = some u' → b ∉ X.env.locals :: X.fs := fun b u' q hm => by
    have hm' : b ∈ L2.frs X.stack := by rw [fr]; exact hm
    obtain ⟨_, o, ho, _⟩ := I.stack.mem hm'
    rw [u.free b o ho (I.stkFree b hm') (by simp)] at q; cases q
  refine ⟨e, C, d, a0, H', L2.only g h', rfl, hos.trans I.os, hb, ⟨fun b o q n hf _ => ?_, fun b o q n hf _ => ?_, u0.free, fun b o q _ => ?_, u0.tups, u0.frzs, u0.tbls⟩, fun a o ea => ?_, F.only, ⟨fun b o q => of_only q, fun b o q hc => ?_⟩, hE⟩
  · have hn : b ∉ X.env.locals :: X.fs := fun z => (List.mem_cons.mp z).elim (neL q) hf
    exact (k b o (sup.old b o (u0.keep b o q n hn (by simp)) (.inl ⟨o, q⟩))).1 hn
  · obtain ⟨sl, q1⟩ := u0.slot b o q n (List.mem_cons_of_mem _ hf) (by simp)
    obtain ⟨sl2, q2⟩ := (k b _ (sup.old b _ q1 (.inl ⟨o, q⟩))).2 (List.mem_cons_of_mem _ hf)
    exact ⟨sl2, q2⟩
  · obtain ⟨o', q1⟩ := u0.there b o q (by simp)
    have q2 := sup.old b _ q1 (.inl ⟨o, q⟩)
    by_cases hm : b ∈ X.env.locals :: X.fs
    · obtain ⟨sl, q3⟩ := (k b _ q2).2 hm
      exact ⟨_, q3⟩
    · exact ⟨_, (k b _ q2).1 hm⟩
  · refine (ok a o ea).stay (fun b v hbv q => ?_) (fun _ q => q) fun _ _ q => q
    have tr : ∃ u', H' b = some u' := by
      rcases hbv with z | z
      · exact ⟨o, by rw [z]; exact ea⟩
      · exact ⟨_, z⟩
    obtain ⟨u', z⟩ := tr
    exact (k b v (sup.old b v q (.inr ⟨u', z⟩))).1 (nof b u' z)
  · have : ∃ o', g.get? b = some o' := by
      rcases hc with ⟨o0, q0⟩ | ⟨u', z⟩
      · obtain ⟨o', q1⟩ := u0.there b o0 q0 (by simp)
        exact ⟨_, sup.old b _ q1 (.inl ⟨o0, q0⟩)⟩
      · obtain ⟨o', q1⟩ := (ok b u' z).get
        exact ⟨_, sup.old b _ q1 (.inr ⟨u', z⟩)⟩
    obtain ⟨o', q2⟩ := this
    exact only_get q q2
def xeOf (X : Cx) (E : XK) : Value → Shared → Prop := fun e s' => wpAny (model X.prog X.w) X.A (leaving X.env e) (fun _ s'' => CXE X.prog X.w X.outer X.H₀ X.s₀ E e s'') (fun e' s'' => CXE X.prog X.w X.outer X.H₀ X.s₀ E e' s'') s'
theorem passes_e {E' : XK} (O : Own X) (hx : X.xe = xeOf X E) (hE : ∀ C d H, E' C d H → E C d H) : Passes (CXE X.prog X.w) X E' := by
  intro pins σ H s ev s' I h
  obtain ⟨e, C, d, a0, H', g, rfl, hos, hb, u, ok, F, sup, q⟩ := h
  rw [hx]
  unfold xeOf
  have hfr : X.A.frames = some (X.env :: X.outer) := by rw [I.ok.frames, O.st]
  have hl : s'.heap.FunFrames X.base (X.env :: X.outer) := by
    have := fun_un u (fun _ h => h) I.stkFree I.stack
    rw [O.st] at this; exact this
  refine leave_next hfr hl O.fr F (Kp.of_keeps sup.sub) fun h' k F' => ?_
  rw [← O.st] at k
  refine cxe_of O I hos hb u ok ⟨sup.sub, fun b o q hc => sup.old b o q ?_⟩ k F' (hE _ _ _ q)
  rcases hc with ⟨o0, q0⟩ | z
  · exact .inl (I.there0 O q0)
  · exact .inr z
theorem raise_e {oe : Obj} {vs : Array Value} (O : Own X) (hx : X.xe = xeOf X E) (I : Inv X pins σ H s) (he : s.heap.get? e = some oe) (hd : oe.data = .fields vs) (h0 : vs[0]? = some a0) (h1 : vs[1]? = some .none) (hn : X.s₀.heap.get? e = none)
    (hm : Mut (H e)) (hE : E oe.cls oe.dict (fun b => if b = e then none else H b)) : X.xe (.ref e) s := by
  rw [hx]
  unfold xeOf
  have hfr : X.A.frames = some (X.env :: X.outer) := by rw [I.ok.frames, O.st]
  have hl : s.heap.FunFrames X.base (X.env :: X.outer) := by have := I.stack; rw [O.st] at this; exact this
  have ne : ∀ {b u}, (fun b => if b = e then none else H b) b = some u → b ≠ e ∧ H b = some u := fun {b u} q => by
    have q' : (if b = e then none else H b) = some u := q
    by_cases z : b = e
    · rw [if_pos z] at q'; cases q'
    · rw [if_neg z] at q'; exact ⟨z, q'⟩
  have eo : ∀ {b : Addr}, b ≠ e → (fun b => if b = e then none else H b) b = H b := fun z => if_neg z
  have notT : ∀ b xs, H b = some (.tup xs) → b ≠ e := fun b xs q z => by rw [← z, q] at hm; exact hm
  have notO : ∀ b a, H b = some (.own a) → b ≠ e := fun b a q z => by rw [← z, q] at hm; exact hm
  have notF : ∀ b o u, H b = some (.frz o u) → b ≠ e := fun b o u q z => by rw [← z, q] at hm; exact hm
  have notB : ∀ b ps, H b = some (.tbl ps) → b ≠ e := fun b ps q z => by rw [← z, q] at hm; exact hm
  refine leave_first (g := PySem.W.hideAll s.heap [e]) hfr hl O.fr he hd h0 h1 (PySem.W.hideAll_none _ List.mem_cons_self) (Kp.of_keeps fun b o q => PySem.W.of_hideAll _ q) fun h' k F => ?_
  rw [← O.st] at k
  refine cxe_of (H' := fun b => if b = e then none else H b) O I rfl I.bare ⟨fun _ _ q _ _ _ => q, fun b o q _ _ _ => ⟨o.slots, q⟩, fun b o _ n _ => ?_, fun b o q _ => ⟨o, q⟩, fun b xs q => (eo (notT b xs q)).trans q, fun b o u q => (eo (notF b o u q)).trans q, fun b ps q => ⟨#[], by rw [Array.append_empty]; exact (eo (notB b ps q)).trans q⟩⟩ ?_ ⟨fun b o q => PySem.W.of_hideAll _ q, fun b o q hc => ?_⟩ k F hE
  · by_cases z : b = e
    · exact if_pos z
    · exact (if_neg z).trans n
  · intro a o ea
    obtain ⟨z, q⟩ := ne ea
    exact (I.hok a o q).stay (fun _ _ _ q => q) (fun b q => (eo (notO b a q)).trans q) fun b xs q => (eo (notT b xs q)).trans q
  · refine PySem.W.hideAll_get _ q fun z => ?_
    have z' : b = e := by simpa using z
    rcases hc with ⟨o0, q0⟩ | ⟨u', q0⟩
    · rw [z', hn] at q0; cases q0
    · exact (ne q0).1 z'
end
end L2

set_option maxRecDepth 100000
set_option maxHeartbeats 4000000
namespace L2
open PySem PySem.Spec PySem.SeqAt PyProof.Rows
def XO (e C : Addr) (d : Option Addr) : HO := .ext fun h => ∃ t, h.get? e = some (excO C t d)
theorem xo_ok {P : Program} {w : World} {H : Hp} {h : Heap} {e C t : Addr} {d : Option Addr} (q : h.get? e = some (excO C t d)) : ObjOk P w H h e (XO e C d) :=
  ⟨⟨t, q⟩, ⟨_, q⟩, fun h1 h2 ⟨t', q'⟩ k => ⟨t', k _ q'⟩⟩
theorem of_xo {P : Program} {w : World} {H : Hp} {h : Heap} {e C : Addr} {d : Option Addr} (ok : HOk P w H h) (q : H e = some (XO e C d)) : ∃ t, h.get? e = some (excO C t d) := (ok e _ q).1
theorem upd_self {H : Hp} {a : Addr} {o : HO} (h : H a = some o) : upd H a o = H := by
  funext b; unfold upd; split
  · rename_i e; rw [e, h]
  · rfl
theorem ord_own : ∀ as : List Addr, Ord (as.map Value.ref ++ bmV)
  | [] => ⟨by decide, by decide, by decide, by decide⟩
  | c :: r => by
    obtain ⟨a, b, c', d⟩ := ord_own r
    exact ⟨by rw [List.map_cons, List.cons_append, List.contains_cons, a, Bool.or_true], by rw [List.map_cons, List.cons_append, List.contains_cons, b, Bool.or_true], by rw [List.map_cons, List.cons_append, List.contains_cons, c']; rfl, by rw [List.map_cons, List.cons_append, List.contains_cons, d]; rfl⟩
structure XCls (K : PySem.W.Frag) (C : Addr) : Prop where
  obj : ∃ (nm q : Str) (N : Addr) (bs : List Value) (as : List Addr) (sn : List Str) (sub : List Value) (ab : Bool) (col : Option Bool) (dd : Option Addr) (k0 k1 k2 k3 k5 : Option Value),
    K.lookup C = some (excClassObj nm q C N bs (as.map Value.ref ++ bmV) true sn sub ab col dd k0 k1 k2 k3 k5 "ValueError.__new__")
  setA : PySem.W.findIn K (.ref C) "__setattr__" = some (some (.builtin "object.__setattr__"))
  getA : PySem.W.findIn K (.ref C) "__getattribute__" = some (some (.builtin "BaseException.__getattribute__"))
  getB : PySem.W.findIn K (.ref C) "__getattr__" = some none
theorem XCls.cls {K : PySem.W.Frag} {C : Addr} (c : XCls K C) : ∃ (cd : ClassData) (as : List Addr), PySem.W.clsIn K C = some cd ∧ cd.mro = as.map Value.ref ++ bmV ∧ cd.hasDict = true := by
  obtain ⟨nm, q, N, bs, as, sn, sub, ab, col, dd, k0, k1, k2, k3, k5, e⟩ := c.obj
  have e2 : PySem.W.clsIn K C = some { name := nm, bases := bs, mro := .ref C :: (as.map Value.ref ++ bmV), ns := N, qualname := q, hasDict := true, slotNames := sn, subclasses := sub, abstract := ab, collection := col, hasDel := false } := by unfold PySem.W.clsIn; rw [e]
  exact ⟨_, C :: as, e2, rfl, rfl⟩
structure XMk (K : PySem.W.Frag) (C f : Addr) : Prop where
  cls : XCls K C
  init : PySem.W.findIn K (.ref C) "__init__" = some (some (.ref f))
  fn : PySem.W.typeIn K (.ref f) = some (.type "function")
  kp : PySem.W.keepIn K (.ref C) = true
section
variable {X : Cx} {pins : List (Addr × Obj)} {σ : St} {H : Hp} {s : Shared}
def sXSet (K : PySem.W.Frag) (ta tv : TE) (f : Str) : TS := fun D σ H => tv σ H fun y H1 => ta σ H1 fun x H2 => ∃ e C, x = .ref e ∧ H2 e = some (XO e C none) ∧ XCls K C ∧ NoAttr K C f ∧
  ∀ dx, H2 dx = none → dx ≠ e → D.nx σ (upd (upd H2 dx (.xd [(f, y)])) e (XO e C (some dx)))
theorem xset_ok {e C : Addr} {f : Str} {y : V} {u : Value} {Q : Unit → Shared → Prop} (I : Inv X pins σ H s) (he : H e = some (XO e C none)) (c : XCls X.K C) (n : NoAttr X.K C f) (ry : RelV y u)
    (h : ∀ dx s', H dx = none → dx ≠ e → Inv X pins σ (upd (upd H dx (.xd [(f, y)])) e (XO e C (some dx))) s' → Q () s') : wpAny (model X.prog X.w) X.A (setAttr (.ref e) f u) Q X.xe s := by
  obtain ⟨t, hx⟩ := of_xo I.hok he
  obtain ⟨cd, as, hc, hm, hd⟩ := c.cls
  refine set_exc I.kIn hx hc hm hd c.setA n fun h' dx hdx hn hE k => ?_
  have hdn : H dx = none := by
    cases q : H dx with
    | none => rfl
    | some o =>
      obtain ⟨ob, z⟩ := (I.hok dx o q).get
      rw [hdx] at z; cases z
  have hde : dx ≠ e := fun z => by rw [z, hx] at hdx; cases hdx
  have nT : ∀ b xs, H b = some (.tup xs) → b ≠ e := fun b xs q z => by rw [z, he] at q; cases q
  have nO : ∀ b a, H b = some (.own a) → b ≠ e := fun b a q z => by rw [z, he] at q; cases q
  have nF : ∀ b o u, H b = some (.frz o u) → b ≠ e := fun b o u q z => by rw [z, he] at q; cases q
  have nB : ∀ b ps, H b = some (.tbl ps) → b ≠ e := fun b ps q z => by rw [z, he] at q; cases q
  have up : ∀ {b o}, H b = some o → b ≠ e → upd (upd H dx (.xd [(f, y)])) e (XO e C (some dx)) b = some o := fun q z => by rw [upd_ne z, upd_ne (ne_of_none q hdn)]; exact q
  refine h dx _ hdn hde (I.un (h' := h') (t' := s.toks + 2) ⟨fun b o q n _ _ => k b o (fun z => by rw [z, he] at n; cases n) q, fun b o q n _ _ => ⟨o.slots, k b o (fun z => by rw [z, he] at n; cases n) q⟩, fun b o q n _ => ?_, fun b o q _ => ?_, fun b xs q => up q (nT b xs q), fun b o u q => up q (nF b o u q), fun b ps q => ⟨#[], by rw [Array.append_empty]; exact up q (nB b ps q)⟩⟩ fun a o q => ?_)
  · have h1 : b ≠ e := fun z => by rw [z, he] at n; cases n
    have h2 : b ≠ dx := fun z => by rw [z, hdx] at q; cases q
    rw [upd_ne h1, upd_ne h2]; exact n
  · by_cases z : b = e
    · subst z; exact ⟨_, hE⟩
    · exact ⟨o, k b o z q⟩
  · by_cases z : a = e
    · subst z; rw [upd_same] at q; cases q; exact xo_ok hE
    · rw [upd_ne z] at q
      by_cases z2 : a = dx
      · subst z2; rw [upd_same] at q; cases q
        refine ⟨_, hn, fun g => ?_⟩
        rw [List.lookup_cons]
        by_cases hg : g = f
        · subst hg; rw [beq_self_eq_true, if_pos rfl]; exact ry
        · rw [if_neg hg, show (g == f) = false by simpa using hg]; trivial
      · rw [upd_ne z2] at q
        refine (I.hok a o q).stay (fun b v hb q' => k b v ?_ q') (fun b q' => up q' (nO b a q')) fun b xs q' => up q' (nT b xs q')
        rcases hb with z3 | z3
        · rw [z3]; exact z
        · exact nO b a z3
theorem ps_xset {o value : Expr} {f : Str} {pos pos' : Pos} {ta tv : TE} (ha : PE X o ta) (hv : PE X value tv) (hs : swapsWith value (some (.Attribute o f pos')) pos.line X.env = pure false := by rfl) :
    PS X (.Assign [.Attribute o f pos'] value pos) (sXSet X.K ta tv f) := by
  intro pins s σ H D I h
  refine plainObj_wpAny_Assign_Attribute (thn (hv pins s σ H _ I h) fun u s1 ⟨y, H1, I1, ry, q1⟩ => thn (ha pins s1 σ H1 _ I1 q1) fun ov s2 ⟨x, H2, I2, rx, e, C, ex, he, c, n, q2⟩ => ?_) hs
  subst ex
  obtain rfl : ov = Value.ref e := rx
  exact xset_ok I2 he c n ry fun dx s' h1 h2 I3 => ⟨σ, _, I3, q2 dx h1 h2⟩

def tXInit (K : PySem.W.Frag) (t : TA) : TE := fun σ H Q => t σ H fun vs H1 => ∃ e C d y, vs = [.ref e, y] ∧ H1 e = some (XO e C d) ∧ XCls K C ∧ Q .non H1
theorem xinit_ok {e C : Addr} {d : Option Addr} {us : List Value} {Q : Value → Shared → Prop} (I : Inv X pins σ H s) (he : H e = some (XO e C d)) (c : XCls X.K C) (hl : us.length ≤ sizeLine)
    (h : ∀ s', Inv X pins σ H s' → Q .none s') : wpAny (model X.prog X.w) X.A (call (.builtin "ValueError.__init__") (.ref e :: us)) Q X.xe s := by
  obtain ⟨t, hx⟩ := of_xo I.hok he
  obtain ⟨nm, q, N, bs, as, sn, sub, ab, col, dd, k0, k1, k2, k3, k5, lk⟩ := c.obj
  have hC := I.kIn _ _ lk
  obtain ⟨hp, g, dr, tk, os⟩ := s
  refine init_exc (ord_own as) hC hx (fun h' hE k => ?_) hl
  have I2 := I.write (x := e) (e := e) (o := XO e C d) (h' := h') (t' := tk) (by rw [he]; trivial) (.inl rfl) (fun b u hb q => k b u hb q) ⟨_, hE⟩ (xo_ok hE)
  rw [upd_self he] at I2
  exact h _ I2
theorem pe_xinit {p apos pos : Pos} {a b : Expr} {t : TA} (hg : Gl X "ValueError") (hm : X.mg "ValueError" = none) (ha : PA X [a, b] t)
    (hst : starEach [a, b] X.env = (false, eval a X.env) :: starEach [b] X.env := by rfl) (hpl : (backTo pos (starEach [b] X.env)).any (·.1) = false := by rfl) (hl : (2 : Nat) ≤ sizeLine := by decide) {pl : Sem Bool}
    (ht : eval (.Call (.Attribute (.Name "ValueError" p) "__init__" apos) [a, b] [] pos) X.env = (do
      let ov ← eval (.Name "ValueError" p) X.env
      standAt apos.atName
      let (f, first) ← holding [ov] (getMethod ov "__init__" pl)
      callWith pos f first (backTo pos (starEach [a, b] X.env)) (backToKw pos (keywordEach [] X.env))) := by rfl) :
    PE X (.Call (.Attribute (.Name "ValueError" p) "__init__" apos) [a, b] [] pos) (tXInit X.K t) := by
  intro pins s σ H Q I h
  obtain ⟨m, F⟩ := I.fr
  refine PySem.W.methodCall_KW (pl := pl) (ld_blt I hg hm rfl ?_) ht
  refine PySem.W.method_type (K := X.K) F I.mod.kin (v := .builtin "ValueError.__init__") (by rfl) (by decide +kernel) (by rfl) (by rfl) ?_
  refine PyProof.Rows.callWith_builtin1 (thn (ha pos pins _ σ H _ (I.tok _) h) fun us s2 ⟨vs, H2, I2, r, e, C, d, y, ev, he, c, q⟩ => ?_) hst hpl
  subst ev
  obtain ⟨u1, u2, rfl, r1, r2⟩ := vals2 r
  obtain rfl : u1 = Value.ref e := r1
  exact xinit_ok (us := [u2]) I2 he c (Nat.le_trans (show 1 ≤ 2 by decide) hl) fun s' I3 => ⟨.non, H2, I3, rfl, q⟩
structure CI (K : PySem.W.Frag) (S f : Addr) : Prop where
  sp : PySem.W.specialIn K (.ref S) "__getattribute__" = some (some (.builtin "type.__getattribute__"))
  rd : PySem.W.readsIn K S (.type "type") = true
  fc : PySem.W.findCls K (.ref S) (.type "type") "__init__" = some (.val (.ref f))
  hd : PySem.W.handedIn (.ref f) = true
  kp : PySem.W.keepIn K (.ref f) = true
theorem pe_cinit {CX : CXT} {k : Nat} {f S : Addr} {fd : FuncData} {ps : List Str} {sp : Sp} {E : XK} {x : Str} {p apos pos : Pos} {e : Expr} {es : List Expr} {t : TA} (c : CI X.K S f) (F : FnOk X.prog X.w X.K X.mg X.base CX k f fd ps sp) (hr : Room k X.A) (hg : Gl X x) (hm : X.mg x = some (.ref S)) (hb : Binds X.K fd ps []) (hx : Passes CX X E)
    (ha : PA X (e :: es) t) (hdb : (x == ("__debug__" : Str)) = false := by decide)
    (hst : starEach (e :: es) X.env = (false, eval e X.env) :: starEach es X.env := by rfl) (hpl : (backTo pos (starEach es X.env)).any (·.1) = false := by rfl) {pl : Sem Bool}
    (ht : eval (.Call (.Attribute (.Name x p) "__init__" apos) (e :: es) [] pos) X.env = (do
      let ov ← eval (.Name x p) X.env
      standAt apos.atName
      let (f, first) ← holding [ov] (getMethod ov "__init__" pl)
      callWith pos f first (backTo pos (starEach (e :: es) X.env)) (backToKw pos (keywordEach [] X.env))) := by rfl) :
    PE X (.Call (.Attribute (.Name x p) "__init__" apos) (e :: es) [] pos) (tCall sp [] E t) := by
  intro pins s σ H Q I h
  refine PySem.W.methodCall_KW (pl := pl) (ld_glob I hg hm ?_ hdb) ht
  refine PySem.W.method_cls I.kIn c.sp (PySem.W.cls_value I.kIn c.rd c.fc c.hd ?_)
  refine PySem.W.callWith_K (first := []) (K := X.K) (h₀ := X.base) I.ok.mod.kin c.kp (thn (ha pos pins _ σ H _ (I.tok _) h) fun us s2 ⟨vs, H2, I2, r, q⟩ => ⟨I2.kIn, ?_⟩) hst hpl
  exact run_fn F hr hb .nil hx I2 r q
theorem run_xmake {CX : CXT} {k : Nat} {f C : Addr} {fd : FuncData} {ps : List Str} {sp : Sp} {E : XK} {us : List Value} {vs : List V} {R : Addr → Hp → Prop} (M : XMk X.K C f) (F : FnOk X.prog X.w X.K X.mg X.base CX k f fd ps sp) (hr : Room (k + 1) X.A) (hb : Binds X.K fd ps [])
    (hx : Passes CX X E) (I : Inv X pins σ H s) (r : Vals vs us) (hlu : us.length ≤ sizeLine)
    (h : ∀ e, H e = none → sp (.ref e :: vs) (upd H e (XO e C none)) (fun v H2 => v = .non ∧ R e H2) E) :
    wpAny (model X.prog X.w) X.A (call (.ref C) us) (fun u s' => ∃ e H', u = .ref e ∧ s.heap.get? e = none ∧ Inv X pins σ H' s' ∧ R e H') X.xe s := by
  obtain ⟨nm, q, N, bs, as, sn, sub, ab, col, dd, k0, k1, k2, k3, k5, lk⟩ := M.cls.obj
  have hC := I.kIn _ _ lk
  have fr : H (s.heap.objs.size + 1) = none := I.hok.fresh (Nat.le_succ _)
  have hq := h (s.heap.objs.size + 1) fr
  have kp : ∀ b o, s.heap.get? b = some o → ((s.heap.push { cls := .type "tuple", data := .seq us.toArray }).push (excO C s.heap.objs.size none)).get? b = some o := fun b o e => Heap.get?_push_of_some _ (Heap.get?_push_of_some _ e)
  have hget : ((s.heap.push { cls := .type "tuple", data := .seq us.toArray }).push (excO C s.heap.objs.size none)).get? (s.heap.objs.size + 1) = some (excO C s.heap.objs.size none) := by heap_get
  have I2 : Inv X pins σ (upd H (s.heap.objs.size + 1) (XO (s.heap.objs.size + 1) C none)) { s with heap := (s.heap.push { cls := .type "tuple", data := .seq us.toArray }).push (excO C s.heap.objs.size none), toks := s.toks } :=
    I.laid kp (Nat.le_succ _) (xo_ok hget)
  have r2 : Vals (V.ref (s.heap.objs.size + 1) :: vs) (Value.ref (s.heap.objs.size + 1) :: us) := .cons rfl r
  have hl : (Value.ref (s.heap.objs.size + 1) :: us).length = ps.length := by
    have e := r2.length
    rw [F.len _ _ _ _ hq] at e
    exact e.symm
  have hbs := hb { s with heap := (s.heap.push { cls := .type "tuple", data := .seq us.toArray }).push (excO C s.heap.objs.size none), toks := s.toks } (Value.ref (s.heap.objs.size + 1) :: us) I2.kIn (by rw [List.append_nil]; exact hl)
  rw [List.append_nil] at hbs
  refine xc_call (h := s.heap) (g := s.gens) (d := s.drawn) (t := s.toks) (os := s.os) (ord_own as) hC (PySem.W.looks_findIn I.kIn M.init) (fun self => PySem.W.bind_fn I.kIn self M.fn) ?_ hlu
  refine wpAny_call (codeAny_mono (F.run _ X.stack _ _ ⟨Value.ref (s.heap.objs.size + 1) :: us, []⟩ (Value.ref (s.heap.objs.size + 1) :: us) _ _ E (hr.make C us []) (I2.env0.make C us []) hbs r2 hq) fun r s' hq' => ?_)
  cases r with
  | error e => exact hx pins σ _ _ e s' I2 hq'
  | ok fl =>
    cases fl with
    | ret u =>
      obtain ⟨v, H', I3, rv, ev, q3⟩ := I2.after hq'
      subst ev
      exact ⟨rv, _, H', rfl, Heap.get?_none_of_le (Nat.le_succ _), I3, q3⟩
    | next => exact False.elim hq'
    | brk => exact False.elim hq'
    | cont => exact False.elim hq'
theorem raiseStmt_x {M : Model} {A : Around} {E : Value → Shared → Prop} {s : Shared} {env : Env} {C : Addr} {x : Sem Value} {Q : Flow → Shared → Prop} (hh : A.handled = none)
    (h : wpAny M A x (fun v s₁ => ∃ (e t N : Addr) (d : Option Addr) (nm q : Str) (bs : List Value) (as : List Addr) (sn : List Str) (sub : List Value) (ab : Bool) (col : Option Bool) (dd : Option Addr) (k0 k1 k2 k3 k5 : Option Value), v = .ref e ∧ s₁.heap.get? C = some (excClassObj nm q C N bs (as.map Value.ref ++ bmV) true sn sub ab col dd k0 k1 k2 k3 k5 "ValueError.__new__") ∧
      s₁.heap.get? e = some (excO C t d) ∧ E (.ref e) s₁) E s) :
    wpAny M A (raiseStmt env (some x) none) Q E s := by
  unfold raiseStmt
  refine wpAny_bind (wpAny_mono h (fun v s₁ h₁ => ?_) fun _ _ x => x)
  obtain ⟨e, t, N, d, nm, q, bs, as, sn, sub, ab, col, dd, k0, k1, k2, k3, k5, rfl, hC, he, hE⟩ := h₁
  have hcB := (ord_own as).cb C
  obtain ⟨hp, g, dr, tk, os⟩ := s₁
  repeat (first | with_reducible refine wpAny_loadPart_at he ?_ | with_reducible refine wpAny_loadPart_at hC ?_ | (with_reducible refine wpAny_isSubtype_exc hC ?_; rw [hcB]) | wp_step)
  exact wpAny_raiseNew_none hh hE
def sRaise (C : Addr) (sp : Sp) (E : XK) (t : TA) : TS := fun D σ H => t σ H fun vs H1 => vs.length ≤ sizeLine ∧ ∀ e, H1 e = none → sp (.ref e :: vs) (upd H1 e (XO e C none)) (fun v H2 => v = .non ∧ ∃ d, H2 e = some (XO e C d) ∧ E (.ref C) d (fun b => if b = e then none else H2 b)) E0
theorem raise_of {k : Nat} {f C : Addr} {fd : FuncData} {ps : List Str} {sp : Sp} {E : XK} {us : List Value} {vs : List V} (O : Own X) (hxe : X.xe = xeOf X E) (M : XMk X.K C f) (F : FnOk X.prog X.w X.K X.mg X.base CX0 k f fd ps sp) (hr : Room (k + 1) X.A) (hb : Binds X.K fd ps [])
    (I : Inv X pins σ H s) (r : Vals vs us) (hlu : vs.length ≤ sizeLine)
    (h : ∀ e, H e = none → sp (.ref e :: vs) (upd H e (XO e C none)) (fun v H2 => v = .non ∧ ∃ d, H2 e = some (XO e C d) ∧ E (.ref C) d (fun b => if b = e then none else H2 b)) E0) :
    wpAny (model X.prog X.w) X.A (call (.ref C) us) (fun v s₁ => ∃ (e t N : Addr) (d : Option Addr) (nm q : Str) (bs : List Value) (as : List Addr) (sn : List Str) (sub : List Value) (ab : Bool) (col : Option Bool) (dd : Option Addr) (k0 k1 k2 k3 k5 : Option Value), v = .ref e ∧ s₁.heap.get? C = some (excClassObj nm q C N bs (as.map Value.ref ++ bmV) true sn sub ab col dd k0 k1 k2 k3 k5 "ValueError.__new__") ∧
      s₁.heap.get? e = some (excO C t d) ∧ X.xe (.ref e) s₁) X.xe s := by
  refine thn (run_xmake M F hr hb pass0 I r (by rw [← r.length]; exact hlu) h) fun u s' ⟨e, H', hu, hn, I', d, he, q⟩ => ?_
  obtain ⟨nm, qn, N, bs, as, sn, sub, ab, col, dd, k0, k1, k2, k3, k5, lk⟩ := M.cls.obj
  obtain ⟨t, hx⟩ := of_xo I'.hok he
  refine ⟨e, t, N, d, nm, qn, bs, as, sn, sub, ab, col, dd, k0, k1, k2, k3, k5, hu, I'.kIn _ _ lk, hx, ?_⟩
  refine raise_e (a0 := .ref t) O hxe I' hx rfl rfl rfl ?_ (by rw [he]; trivial) q
  cases z : X.s₀.heap.get? e with
  | none => rfl
  | some o =>
    obtain ⟨o', z'⟩ := I.there0 O z
    rw [hn] at z'; cases z'
theorem ps_raise0 {k : Nat} {f C : Addr} {fd : FuncData} {ps : List Str} {sp : Sp} {E : XK} {x : Str} {p cpos pos : Pos} (O : Own X) (hxe : X.xe = xeOf X E) (hc : X.calm = true) (M : XMk X.K C f) (F : FnOk X.prog X.w X.K X.mg X.base CX0 k f fd ps sp) (hr : Room (k + 1) X.A) (hb : Binds X.K fd ps [])
    (hg : Gl X x) (hm : X.mg x = some (.ref C)) (hdb : (x == ("__debug__" : Str)) = false := by decide) : PS X (.Raise (some (.Call (.Name x p) [] [] cpos)) none pos) (sRaise C sp E tNil) := by
  intro pins s σ H D I h
  rw [arm_exec_Raise]
  refine wpAny_bind (wpAny_standAt ?_)
  refine raiseStmt_x (I.ok.hd hc) (C := C) ?_
  refine wpAny_bind (wpAny_mono (Q := fun v s₁ => _) (wpAny_Call_Name_kw (ld_glob I hg hm (PySem.W.callWith_K0 I.kIn M.kp (raise_of (us := []) O hxe M F hr hb I .nil h.1 h.2)) hdb)) (fun v s₁ q => wpAny_bind (wpAny_standAt (wpAny_pure q))) fun _ _ z => z)
end
end L2

set_option maxRecDepth 100000
set_option maxHeartbeats 4000000
namespace L2
open PySem PySem.Spec PySem.SeqAt PyProof.Rows
def XSub (K : PySem.W.Frag) (C S : Addr) : Prop := ∃ cd : ClassData, PySem.W.clsIn K C = some cd ∧ cd.mro.contains (.ref S) = true
theorem matches_own {M : Model} {A : Around} {E : Value → Shared → Prop} {s : Shared} {K : PySem.W.Frag} {C S e : Addr} {oe : Obj} {Q : Bool → Shared → Prop} (X : K.In s.heap) (c : XCls K C) (cS : XCls K S) (hsub : XSub K C S)
    (he : s.heap.get? e = some oe) (hcls : oe.cls = .ref C) (hq : Q true s) : wpAny M A (excMatches (.ref e) (.ref S)) Q E s := by
  obtain ⟨nm, q, N, bs, as, sn, sub, ab, col, dd, k0, k1, k2, k3, k5, lk⟩ := c.obj
  obtain ⟨nm', q', N', bs', as', sn', sub', ab', col', dd', k0', k1', k2', k3', k5', lk'⟩ := cS.obj
  have hC := X _ _ lk
  have hS := X _ _ lk'
  have hcB := (ord_own as').cb S
  have hcS : (Value.ref C :: (as.map Value.ref ++ bmV)).contains (.ref S) = true := by
    obtain ⟨cd, e1, e2⟩ := hsub
    unfold PySem.W.clsIn at e1
    rw [lk] at e1
    cases e1
    exact e2
  have f := tc_notTuple
  obtain ⟨h, g, d, t, os⟩ := s
  unfold excMatches
  repeat (first | (with_reducible refine wpAny_loadPart_at he ?_; rw [hcls]) | with_reducible refine wpAny_loadPart_at hS ?_ | with_reducible refine wpAny_loadPart_at hC ?_ | (with_reducible refine wpAny_isSubtype_exc hS ?_; rw [hcB]) | (with_reducible refine wpAny_isSubtype_exc hC ?_; rw [hcS]) | wp_step)
  exact hq
abbrev markX (X : Cx) (e : Addr) (oe : Obj) : Cx := { X with A := X.A.mark (some (.ref e)), calm := false, pn := (e, oe) :: X.pn, xe := fun _ _ => False }
abbrev withX (X : Cx) (E : Value → Shared → Prop) (pn : List (Addr × Obj)) : Cx := { X with xe := E, pn := pn }
section
variable {X : Cx} {pins : List (Addr × Obj)} {σ : St} {H H' : Hp} {s s' : Shared} {e : Addr} {oe : Obj}
theorem Cx.Ok.with {E : Value → Shared → Prop} {pn : List (Addr × Obj)} (o : X.Ok) : (withX X E pn).Ok := ⟨o.mod, o.kind, o.glob, o.blt, o.above, o.inj, o.has, o.cab, o.hd, o.frames, o.stk, o.exf, o.bs, o.bsz, o.noex, o.exfs, o.funs, o.frf⟩
theorem Cx.Ok.without {E : Value → Shared → Prop} {pn : List (Addr × Obj)} (o : (withX X E pn).Ok) : X.Ok := ⟨o.mod, o.kind, o.glob, o.blt, o.above, o.inj, o.has, o.cab, o.hd, o.frames, o.stk, o.exf, o.bs, o.bsz, o.noex, o.exfs, o.funs, o.frf⟩
theorem Cx.Ok.marked (o : X.Ok) (hf : (X.A.mark (some (.ref e))).frames = X.A.frames) : (markX X e oe).Ok := ⟨o.mod, o.kind, o.glob, o.blt, o.above, o.inj, o.has, o.cab, fun z => absurd (show false = true from z) (by decide), hf.trans o.frames, o.stk, o.exf, o.bs, o.bsz, o.noex, o.exfs, o.funs, o.frf⟩
theorem Inv.with {E : Value → Shared → Prop} (I : Inv X pins σ H s) : Inv (withX X E (X.pn ++ pins)) [] σ H s := ⟨I.ok.with, I.os, I.bare, I.base, I.loc, I.cell, I.free, I.freeC, fun p hp => I.pin p (by simpa using hp), I.hok, I.len⟩
theorem Inv.without {E : Value → Shared → Prop} {pins' : List (Addr × Obj)} (I : Inv (withX X E (X.pn ++ pins)) pins' σ H s) : Inv X pins σ H s := ⟨I.ok.without, I.os, I.bare, I.base, I.loc, I.cell, I.free, I.freeC, fun p hp => I.pin p (List.mem_append_left _ hp), I.hok, I.len⟩
theorem Inv.marked (I : Inv X pins σ H s) (he : s.heap.get? e = some oe) (hn : H e = none) (hL : e ≠ X.env.locals) (hf : e ∉ X.fs) (hd : ∀ v, oe.data ≠ .cell v) : Inv (markX X e oe) pins σ H s := ⟨I.ok.marked rfl, I.os, I.bare, I.base, I.loc, I.cell, I.free, I.freeC, fun p hp => by
    have hp' : p ∈ (e, oe) :: (X.pn ++ pins) := hp
    rcases List.mem_cons.mp hp' with z | z
    · subst z; exact ⟨he, hn, hL, hf, hd⟩
    · exact I.pin p z, I.hok, I.len⟩
theorem SP.without {E : Value → Shared → Prop} {D : Ends} {f : Flow} (h : SP (withX X E (X.pn ++ pins)) [] D f s') : SP X pins D f s' := by
  cases f with
  | next => obtain ⟨a, b, I, q⟩ := h; exact ⟨a, b, I.without, q⟩
  | brk => obtain ⟨a, b, I, q⟩ := h; exact ⟨a, b, I.without, q⟩
  | cont => obtain ⟨a, b, I, q⟩ := h; exact ⟨a, b, I.without, q⟩
  | ret u => obtain ⟨v, a, b, I, r, q⟩ := h; exact ⟨v, a, b, I.without, r, q⟩
def tXFld (K : PySem.W.Frag) (oe : Obj) (f : Str) : TE := fun σ H Q => ∃ C dx fs v, oe.cls = .ref C ∧ oe.dict = some dx ∧ (∃ vs, oe.data = .fields vs) ∧ XCls K C ∧ NoAttr K C f ∧ H dx = some (.xd fs) ∧ fs.lookup f = some v ∧ Q v H
theorem pe_xfld {i : Nat} {n f : Str} {p pos : Pos} (hN : X.N[i]? = some n) (hv : Vis X.env.scope n) (hb : attributeBase (.Name n p) f X.env (eval (.Name n p) X.env) = eval (.Name n p) X.env := by rfl) (hd : (n == ("__debug__" : Str)) = false := by decide) (hcd : (n == ("__classdict__" : Str)) = false := by decide) :
    PE (markX X e oe) (.Attribute (.Name n p) f pos) (fun σ H Q => σ[i]? = some (some (.ref e)) ∧ tXFld X.K oe f σ H Q) := by
  intro pins s σ H Q I h
  obtain ⟨hσ, C, dx, fs, v, hc, hdx, ⟨vs, hfd⟩, c, na, hH, hl, q⟩ := h
  refine attr_of hb (thn (pe_var (X := markX X e oe) (i := i) hN hv hd hcd pins s σ H (fun y H1 => y = .ref e ∧ H1 = H) I ⟨.ref e, hσ, rfl, rfl⟩) fun u s1 ⟨x, H1, I1, rx, ex, eH⟩ => ?_)
  subst ex eH
  obtain rfl : u = Value.ref e := rx
  have pe := (I1.pin (e, oe) (by simp)).1
  obtain ⟨mA, hns, hrel⟩ := (show ∃ mA, s1.heap.Ns1 dx mA ∧ ∀ f, RelO (fs.lookup f) (mA f) from I1.hok dx _ hH)
  have hr := hrel f
  rw [hl] at hr
  obtain ⟨uv, hu, ru⟩ := hr.some_of
  obtain ⟨nm, q', N, bs, as, sn, sub, ab, col, dd, k0, k1, k2, k3, k5, lk⟩ := c.obj
  have kin : X.K.In s1.heap := I1.kIn
  have hC := kin _ _ lk
  obtain ⟨cd, as', h1, h2, h3⟩ := c.cls
  obtain ⟨hp, g, dr, tk, os⟩ := s1
  exact get_exc kin (ord_own as) hC c.getA c.getB na h1 h3 pe hc hfd hdx hns hu (handed_of ru) ⟨v, H1, I1.tok _, ru, q⟩
theorem un_kp {fs : List Addr} {h h1 h2 g : Heap} {P : Program} {w : World} (u : Un fs [] H H' h h1) (ok : HOk P w H' h1) (sup : Sup H' h g h1) (k : Kp fs g h2) (nof : ∀ b u', H' b = some u' → b ∉ fs) : Un fs [] H H' h h2 ∧ HOk P w H' h2 := by
  refine ⟨⟨fun b o q n hf _ => ?_, fun b o q n hf _ => ?_, u.free, fun b o q _ => ?_, u.tups, u.frzs, u.tbls⟩, fun a o ea => ?_⟩
  · exact (k b o (sup.old b o (u.keep b o q n hf (by simp)) (.inl ⟨o, q⟩))).1 hf
  · obtain ⟨sl, q1⟩ := u.slot b o q n hf (by simp)
    obtain ⟨sl2, q2⟩ := (k b _ (sup.old b _ q1 (.inl ⟨o, q⟩))).2 hf
    exact ⟨sl2, q2⟩
  · obtain ⟨o', q1⟩ := u.there b o q (by simp)
    have q2 := sup.old b _ q1 (.inl ⟨o, q⟩)
    by_cases hm : b ∈ fs
    · obtain ⟨sl, q3⟩ := (k b _ q2).2 hm
      exact ⟨_, q3⟩
    · exact ⟨_, (k b _ q2).1 hm⟩
  · refine (ok a o ea).stay (fun b v hbv q => ?_) (fun _ q => q) fun _ _ q => q
    have tr : ∃ u', H' b = some u' := by
      rcases hbv with z | z
      · exact ⟨o, by rw [z]; exact ea⟩
      · exact ⟨_, z⟩
    obtain ⟨u', z⟩ := tr
    exact (k b v (sup.old b v q (.inr ⟨u', z⟩))).1 (nof b u' z)
theorem goes_ok {M : Model} {A : Around} {E : Value → Shared → Prop} {n : Str} {pos : Pos} {Q : Unit → Shared → Prop} (I : Inv X pins σ H s) (hl : X.env.scope.names.lookup n = some .local)
    (h : ∀ s', Inv X pins (List.replicate X.N.length none) H s' → Q () s') : wpAny M A (do bindName X.env n .none; unbindBehindTheSuite X.env n pos) Q E s := by
  obtain ⟨m, hn, _⟩ := id I.loc
  have hcls : (X.env.scope.kind == .class || (X.env.scope.kind == .module && X.env.locals != X.env.globals)) = false := by rw [I.ok.kind]; rfl
  refine wpAny_nameGoes hl hn hcls fun h' m' hn' hs => h _ ?_
  have hL : X.s₀.heap.get? X.env.locals = none := Heap.get?_none_of_le I.ok.above
  have kk : ∀ b o, b ≠ X.env.locals → s.heap.get? b = some o → h'.get? b = some o := fun b o hb q => hs.extBut b o hb q
  have nL : ∀ b o, X.s₀.heap.get? b = some o → b ≠ X.env.locals := fun b o q z => by rw [z, hL] at q; cases q
  refine ⟨I.ok, I.os, I.bare, ⟨fun b o q n' hf hx => kk b o (nL b o q) (I.base.keep b o q n' hf hx), fun b o q n' hf hx => ?_, I.base.free, fun b o q hx => ?_, I.base.tups, I.base.frzs, I.base.tbls⟩, ⟨m', hn', fun i x v h1 h2 h3 => ?_⟩, fun x c hc => ?_, I.free, I.freeC, fun p hp => ?_, fun a o ea => ?_, by simp⟩
  · obtain ⟨sl, q1⟩ := I.base.slot b o q n' hf hx
    exact ⟨sl, kk b _ (nL b o q) q1⟩
  · obtain ⟨o', q1⟩ := I.base.there b o q hx
    exact ⟨o', kk b _ (nL b o q) q1⟩
  · rw [List.getElem?_replicate] at h2
    split at h2 <;> cases h2
  · obtain ⟨v, o, ho, hd⟩ := I.cell x c hc
    exact ⟨v, o, kk c o (I.cne x c hc) ho, hd⟩
  · obtain ⟨a, b, c, d⟩ := I.pin p hp
    exact ⟨kk _ _ c a, b, c, d⟩
  · refine (I.hok a o ea).stay (fun b v hb q => kk b v (fun z => ?_) q) (fun _ q => q) fun _ _ q => q
    have hF := I.free
    rcases hb with z2 | z2
    · rw [← z, z2, ea] at hF; cases hF
    · rw [← z, z2] at hF; cases hF
def Caught (K : PySem.W.Frag) (n i : Nat) (S : Addr) (th : Addr → Obj → TS) (rt : VK) : XK := fun C d H' => ∃ Ca, C = .ref Ca ∧ XCls K Ca ∧ XSub K Ca S ∧
  ∀ e oe, oe.cls = .ref Ca → oe.dict = d → (∃ vs, oe.data = .fields vs) → H' e = none → th e oe { nx := fun _ _ => False, rt := rt } ((List.replicate n none).set i (some (.ref e))) H'
theorem ps_try {body : List Stmt} {cx : Str} {cp hpos pos : Pos} {n : Str} {i : Nat} {b₀ : Stmt} {suite : List Stmt} {S : Addr} {tb : XK → TS} {th : Addr → Obj → TS} (O : Own X) (hN : X.N.Nodup) (hi : X.N[i]? = some n) (hloc : X.env.scope.names.lookup n = some .local)
    (hg : Gl X cx) (hm : X.mg cx = some (.ref S)) (cS : XCls X.K S) (hs : ∀ e oe, PSs (markX X e oe) (b₀ :: suite) (th e oe))
    (hb : ∀ E' pn E, Passes (CXE X.prog X.w) (withX X E' pn) E → PSs (withX X E' pn) body (tb E)) (hdb : (cx == ("__debug__" : Str)) = false := by decide) :
    PS X (.Try body [.ExceptHandler (some (.Name cx cp)) (some n) (b₀ :: suite) hpos] [] [] pos) (fun D σ H => tb (Caught X.K X.N.length i S th D.rt) D σ H) := by
  intro pins s σ H D I h
  refine wpAny_Try_except ?_
  have key := hb (fun e s₁ => wpAny (model X.prog X.w) X.A (noteFrame e X.env) (fun _ s₂ => wpAny (model X.prog X.w) X.A (setFlight e none) (fun _ s₃ => wpAny (model X.prog X.w) X.A (handleBy e X.env [.ExceptHandler (some (.Name cx cp)) (some n) (b₀ :: suite) hpos]) (SP X pins D) X.xe s₃) X.xe s₂) X.xe s₁)
    (X.pn ++ pins) (Caught X.K X.N.length i S th D.rt) ?_ [] s σ H D I.with h
  · refine wpAny_mono key (fun f s₁ q => ?_) fun _ _ z => z
    have q' := SP.without q
    cases f with
    | next => exact wpAny_execs_nil q'
    | brk => exact q'
    | cont => exact q'
    | ret u => exact q'
  · intro pins' σ1 H1 s1 ev s2 I1' hx
    have I1 : Inv X pins σ1 H1 s1 := Inv.without I1'
    obtain ⟨e, C, d, a0, H', g, rfl, hos, hbr, u, ok, F, sup, Ca, rfl, c, hsub, hth⟩ := hx
    have u' : Un (L2.frs X.stack) [] H1 H' s1.heap s2.heap := u
    have fr := O.frs
    have hfr : X.A.frames = some (X.env :: X.outer) := by rw [I1.ok.frames, O.st]
    have hl : s2.heap.FunFrames X.base (X.env :: X.outer) := by
      have := fun_un u' (fun _ h => h) I1.stkFree I1.stack
      rw [O.st] at this; exact this
    have nof : ∀ b u'', H' b = some u'' → b ∉ L2.frs X.stack := fun b u'' q hm' => by
      obtain ⟨_, o, ho, _⟩ := I1.stack.mem hm'
      rw [u'.free b o ho (I1.stkFree b hm') (by simp)] at q; cases q
    have mk : ∀ h2, Kp (L2.frs (X.env :: X.outer)) g h2 → Inv X pins σ1 H' { s2 with heap := h2 } := fun h2 k => by
      rw [← O.st] at k
      obtain ⟨u2, ok2⟩ := un_kp u' ok sup k nof
      exact I1.call' (s' := { s2 with heap := h2 }) (ch := []) hos u2 ok2 hbr fun b z => absurd z (by simp)
    have hge : ∀ h2, Fly g .none e (.ref Ca) d a0 h2 → H' e = none ∧ e ≠ X.env.locals ∧ e ∉ X.fs := fun h2 F2 => by
      obtain ⟨hg0, oe, vs, T, oT, ts, he, _⟩ := id F
      have nin : s1.heap.get? e = none := by
        cases q : s1.heap.get? e with
        | none => rfl
        | some o => rw [sup.old e _ he (.inl ⟨o, q⟩)] at hg0; cases hg0
      refine ⟨?_, fun z => ?_, fun z => ?_⟩
      · cases q : H' e with
        | none => rfl
        | some o => rw [sup.old e _ he (.inr ⟨o, q⟩)] at hg0; cases hg0
      · have := I1.lt
        obtain ⟨m, ⟨o, es, ep, ho, _⟩, _⟩ := I1.loc
        rw [← z, nin] at ho; cases ho
      · have hm' : e ∈ L2.frs X.stack := by rw [fr]; exact List.mem_cons_of_mem _ z
        obtain ⟨_, o, ho, _⟩ := I1.stack.mem hm'
        rw [nin] at ho; cases ho
    show wpAny _ X.A (noteFrame (.ref e) X.env) _ _ s2
    refine note_next hfr hl O.fr F (Kp.of_keeps sup.sub) fun h1 k1 F1 => ?_
    refine set_none (s := { s2 with heap := h1 }) F1 k1 fun h2 k2 F2 => ?_
    have I2 := mk h2 k2
    obtain ⟨z1, z2, z3⟩ := hge h2 F2
    obtain ⟨_, oe2, vs2, T2, oT2, ts2, he2, hc2, hd2, hf2, _⟩ := id F2
    have ok2 : (markX X e oe2).Ok := I2.ok.marked rfl
    have J2 : Inv (markX X e oe2) pins σ1 H' { s2 with heap := h2 } := I2.marked he2 z1 z2 z3 (fun v => by rw [hf2]; nofun)
    refine wpAny_handleBy_cons (codeAny_handlers_test ?_) (by intro q; cases q)
    refine ld_glob (X := markX X e oe2) J2 hg hm ?_ hdb
    refine matches_own I2.kIn c cS hsub he2 hc2 ?_
    refine codeAny_handlers_suite_as ?_
    refine set_none (s := { s2 with heap := h2 }) F2 k2 fun h3 k3 F3 => ?_
    have I3 := mk h3 k3
    obtain ⟨_, oe, vs, T, oT, ts, he3, hc3, hd3, hf3, _⟩ := id F3
    have J3 : Inv (markX X e oe) pins (List.replicate X.N.length none) H' { s2 with heap := h3 } := (I3.marked he3 z1 z2 z3 (fun v => by rw [hf3]; nofun)).weak (by rw [List.length_replicate]; exact I3.len.symm) fun j v q => by
      rw [List.getElem?_replicate] at q
      split at q <;> cases q
    refine store_ok (X := markX X e oe) J3 hN hi (.inl hloc) (v := .ref e) rfl (fun s4 J4 => ?_) (.inr hloc)
    refine wpAny_mono (hs e oe pins s4 _ H' _ J4 (hth e oe hc3 hd3 ⟨vs, hf3⟩ z1)) (fun f s5 q => ?_) fun _ _ z => z.elim
    cases f with
    | next => obtain ⟨_, _, _, z⟩ := q; exact z.elim
    | brk => obtain ⟨_, _, _, z⟩ := q; exact z.elim
    | cont => obtain ⟨_, _, _, z⟩ := q; exact z.elim
    | ret uv =>
      obtain ⟨v, σ5, H5, J5, rv, q5⟩ := q
      have I5 : Inv X pins σ5 H5 s5 := ⟨⟨J5.ok.mod, J5.ok.kind, J5.ok.glob, J5.ok.blt, J5.ok.above, J5.ok.inj, J5.ok.has, J5.ok.cab, I.ok.hd, I.ok.frames, J5.ok.stk, J5.ok.exf, J5.ok.bs, J5.ok.bsz, J5.ok.noex, J5.ok.exfs, J5.ok.funs, J5.ok.frf⟩, J5.os, J5.bare, J5.base, J5.loc, J5.cell, J5.free, J5.freeC, fun p hp => J5.pin p (List.mem_cons_of_mem _ hp), J5.hok, J5.len⟩
      exact goes_ok I5 hloc fun s6 I6 => ⟨v, _, H5, I6, rv, q5⟩
end
end L2

namespace Ev
noncomputable section
inductive W where | non | bl (b : Bool) | int (i : Int) | str (c : List Nat) | ref (n : Nat)
  deriving DecidableEq
abbrev Fs := List (List Nat × W)
inductive O where
  | tup (xs : List W) | lst (xs : List W) | ins (C : Nat) (fs : Fs) | dk (kvs : List (W × W)) | dt (kvs : List (List W × W))
  deriving DecidableEq
inductive Tr where | lf | nd (o : Option O) (l r : Tr)
def Tr.get (t : Tr) : Nat → Option O := Tr.rec (fun _ => none) (fun o _ _ gl gr k => Nat.rec o (fun k _ => Bool.rec (gr (k / 2)) (gl (k / 2)) (Nat.beq (k % 2) 0)) k) t
def Tr.set (d : Nat) : Tr → Nat → O → Tr := Nat.rec (fun t _ _ => t) (fun _ ih t k o => Tr.rec
    (Nat.rec (.nd (some o) .lf .lf) (fun k _ => Bool.rec (.nd none .lf (ih .lf (k / 2) o)) (.nd none (ih .lf (k / 2) o) .lf) (Nat.beq (k % 2) 0)) k)
    (fun x l r _ _ => Nat.rec (.nd (some o) l r) (fun k _ => Bool.rec (.nd x l (ih r (k / 2) o)) (.nd x (ih l (k / 2) o) r) (Nat.beq (k % 2) 0)) k) t) d
inductive Hs where | mk (n : Nat) (t : Tr)
def Hs.n (h : Hs) : Nat := Hs.rec (fun n _ => n) h
def Hs.get (h : Hs) (k : Nat) : Option O := Hs.rec (fun _ t => t.get k) h
def Hs.set (h : Hs) (k : Nat) (o : O) : Hs := Hs.rec (fun n t => .mk n (t.set (k + 1) k o)) h
def Hs.push (h : Hs) (o : O) : Hs := Hs.rec (fun n t => .mk (n + 1) (t.set (n + 1) n o)) h
inductive R (α : Type) where | ok (a : α) (h : Hs) | ex (C : Nat) (fs : Fs) (h : Hs) | no
def R.bind {α β : Type} (r : R α) (f : α → Hs → R β) : R β := R.rec (fun a h => f a h) (fun C fs h => .ex C fs h) .no r
def R.nox {α : Type} (r : R α) : R α := R.rec (fun a h => .ok a h) (fun _ _ _ => .no) .no r
def W.elim {β : Type} (w : W) (z : β) (b : Bool → β) (i : Int → β) (s : List Nat → β) (r : Nat → β) : β := W.rec z b i s r w
def W.onI {β : Type} (w : W) (f : Int → R β) : R β := W.rec .no (fun _ => .no) f (fun _ => .no) (fun _ => .no) w
def W.onR {β : Type} (w : W) (f : Nat → R β) : R β := W.rec .no (fun _ => .no) (fun _ => .no) (fun _ => .no) f w
def W.onB {β : Type} (w : W) (f t : R β) : R β := W.rec .no (fun b => Bool.rec f t b) (fun _ => .no) (fun _ => .no) (fun _ => .no) w
def ifB {β : Type} (b : Bool) (t f : β) : β := Bool.rec f t b
def oneW (ws : List W) (f : W → R W) : R W := List.rec .no (fun a r _ => List.rec (f a) (fun _ _ _ => .no) r) ws
def twoW (ws : List W) (f : W → W → R W) : R W := List.rec .no (fun a r _ => List.rec .no (fun b r _ => List.rec (f a b) (fun _ _ _ => .no) r) r) ws
def twoI (ws : List W) (f : Int → Int → R W) : R W := twoW ws fun a b => a.onI fun i => b.onI fun j => f i j
abbrev Sg := List (Option W)
inductive Fl where | nx (τ : Sg) | rt (w : W) | bk (τ : Sg) | ct (τ : Sg)
def app {α : Type} (xs ys : List α) : List α := List.rec ys (fun x _ r => x :: r) xs
def len {α : Type} (xs : List α) : Nat := List.rec 0 (fun _ _ r => r + 1) xs
def nth {α : Type} (xs : List α) : Nat → Option α := List.rec (fun _ => none) (fun x _ ih k => Nat.rec (some x) (fun k _ => ih k) k) xs
def drp {α : Type} (xs : List α) : Nat → List α := List.rec (fun _ => []) (fun x r ih k => Nat.rec (x :: r) (fun k _ => ih k) k) xs
def tak {α : Type} (xs : List α) : Nat → List α := List.rec (fun _ => []) (fun x _ ih k => Nat.rec [] (fun k _ => x :: ih k) k) xs
def setAt {α : Type} (τ : List α) (w : α) : Nat → List α := List.rec (fun _ => []) (fun x r ih k => Nat.rec (w :: r) (fun k _ => x :: ih k) k) τ
def getAt (τ : Sg) : Nat → Option W := List.rec (fun _ => none) (fun x _ ih k => Nat.rec x (fun k _ => ih k) k) τ
def codes (x : List Nat) : List Nat → Bool := List.rec (fun y => List.rec true (fun _ _ _ => false) y) (fun a _ ih y => List.rec false (fun b r _ => ifB (Nat.beq a b) (ih r) false) y) x
def fget (fs : Fs) (f : List Nat) : Option W := List.rec none (fun p _ r => ifB (codes p.1 f) (some p.2) r) fs
def fput (f : List Nat) (w : W) (fs : Fs) : Fs := List.rec [(f, w)] (fun p r ih => ifB (codes p.1 f) ((f, w) :: r) (p :: ih)) fs
def ieq (i j : Int) : Bool := Int.rec (fun a => Int.rec (fun b => Nat.beq a b) (fun _ => false) j) (fun a => Int.rec (fun _ => false) (fun b => Nat.beq a b) j) i
def ilt (i j : Int) : Bool := Int.rec (fun a => Int.rec (fun b => Nat.ble (a + 1) b) (fun _ => false) j) (fun a => Int.rec (fun _ => true) (fun b => Nat.ble (b + 1) a) j) i
def Opt {α β : Type} (o : Option α) (f : α → R β) : R β := Option.rec .no f o
def O.items {β : Type} (o : O) (f : List W → R β) : R β := O.rec f f (fun _ _ => .no) (fun _ => .no) (fun _ => .no) o
def O.onL {β : Type} (o : O) (f : List W → R β) : R β := O.rec (fun _ => .no) f (fun _ _ => .no) (fun _ => .no) (fun _ => .no) o
def O.onT {β : Type} (o : O) (f : List W → R β) : R β := O.rec f (fun _ => .no) (fun _ _ => .no) (fun _ => .no) (fun _ => .no) o
def O.onS {β : Type} (o : O) (f : List W → R β) : R β := O.rec (fun _ => .no) f (fun _ _ => .no) (fun _ => .no) (fun _ => .no) o
def O.onI {β : Type} (o : O) (f : Nat → Fs → R β) : R β := O.rec (fun _ => .no) (fun _ => .no) f (fun _ => .no) (fun _ => .no) o
def Hs.at {β : Type} (h : Hs) (w : W) (f : Nat → O → R β) : R β := w.onR fun n => Opt (h.get n) (f n)
def R.alloc (h : Hs) (o : O) : R W := .ok (.ref h.n) (h.push o)
def R.yes (b : Bool) (h : Hs) : R W := .ok (.bl b) h
inductive D where | non | bl (b : Bool) | int (i : Int) | str (c : List Nat) | lst (xs : List D) | tup (xs : List D)
def okC (c : List Nat) : Bool := List.rec true (fun x _ r => ifB (Nat.ble (x + 1) 1114112) r false) c
def allD (f : W → Option D) (xs : List W) : Option (List D) := List.rec (some []) (fun x _ r => Option.rec none (fun d => Option.rec none (fun ds => some (d :: ds)) r) (f x)) xs
def toD (h : Hs) (n : Nat) : W → Option D := Nat.rec (fun _ => none) (fun _ ih w => W.elim w (some .non) (fun b => some (.bl b)) (fun i => some (.int i)) (fun c => ifB (okC c) (some (.str c)) none) fun k =>
  Option.rec none (fun o => O.rec (fun xs => Option.rec none (fun ds => some (.tup ds)) (allD ih xs)) (fun xs => Option.rec none (fun ds => some (.lst ds)) (allD ih xs)) (fun _ _ => none) (fun _ => none) (fun _ => none) o) (h.get k)) n
def D.bools (b : Bool) (d : D) : Bool := D.casesOn d false (fun c => Bool.rec (!c) c b) (fun _ => false) (fun _ => false) (fun _ => false) (fun _ => false)
mutual
def eqDD : D → D → Bool
  | .non, .non => true
  | .bl a, .bl b => a == b
  | .int i, .int j => ieq i j
  | .str x, .str y => codes x y
  | .lst xs, .lst ys => eqDs xs ys
  | .tup xs, .tup ys => eqDs xs ys
  | .bl a, .int j => ieq (if a then 1 else 0) j
  | .int i, .bl b => ieq i (if b then 1 else 0)
  | _, _ => false
def eqDs : List D → List D → Bool
  | [], [] => true
  | x :: xs, y :: ys => eqDD x y && eqDs xs ys
  | _, _ => false
end
mutual
def sameD : D → D → Bool
  | .non, .non => true
  | .bl a, .bl b => a == b
  | .int i, .int j => ieq i j
  | .str x, .str y => codes x y
  | .lst xs, .lst ys => sameDs xs ys
  | .tup xs, .tup ys => sameDs xs ys
  | _, _ => false
def sameDs : List D → List D → Bool
  | [], [] => true
  | x :: xs, y :: ys => sameD x y && sameDs xs ys
  | _, _ => false
end
inductive Pr where
  | add | sub | mul | fdiv | mod | pow | neg | abs | min | max | lt | le | gt | ge | eq | ne
  | ix | len | tup | lst | isN | notN | notb | truth | append | pop | clear | reverse | extend | list | in_ | notin | all | any | isi (k : Nat) | intb | same | tab (tb : List (List Nat × List Int)) | lenset | lrng
def Sml (i : Int) : Bool := Int.rec (fun a => Nat.ble (a + 1) (2 ^ 4000)) (fun a => Nat.ble (a + 2) (2 ^ 4000)) i
def size (xs : List W) (k : R W) : R W := ifB (Nat.ble (len xs) 16777215) k .no
def pCat (h : Hs) (a b : W) : R W := h.at a fun _ x => h.at b fun _ y => O.casesOn x (fun _ => .no) (fun xs => y.onL fun ys => size (app xs ys) (.alloc h (.lst (app xs ys)))) (fun _ _ => .no) (fun _ => .no) (fun _ => .no)
def pAdd (h : Hs) (a b : W) : R W := W.elim a .no (fun _ => .no) (fun i => b.onI fun j => .ok (.int (i + j)) h) (fun _ => .no) (fun _ => pCat h a b)
def pSub (h : Hs) (i j : Int) : R W := .ok (.int (i - j)) h
def repL (xs : List W) (k : Nat) : List W := Nat.rec [] (fun _ r => app xs r) k
def pRep (h : Hs) (a : W) (k : Int) : R W := h.at a fun _ x => x.onL fun xs => ifB (ilt k 100000) (ifB (ilt (-100000) k) (ifB (Nat.ble (len xs) 100) (.alloc h (.lst (repL xs k.toNat))) .no) .no) .no
def pMul (h : Hs) (a b : W) : R W := b.onI fun j => W.elim a .no (fun _ => .no) (fun i => ifB (Sml i) (ifB (Sml j) (.ok (.int (i * j)) h) .no) .no) (fun _ => .no) (fun _ => pRep h a j)
def pMod (h : Hs) (i j : Int) : R W := ifB (ilt 0 j) (.ok (.int (i % j)) h) .no
def pFdiv (h : Hs) (i j : Int) : R W := ifB (ilt 0 j) (ifB (Sml j) (.ok (.int (i.fdiv j)) h) .no) .no
def pPow (h : Hs) (i j : Int) : R W := ifB (ilt i 1000) (ifB (ilt 0 i) (ifB (ilt 0 j) (ifB (ilt j 1000) (.ok (.int (i ^ j.toNat)) h) .no) .no) .no) .no
def pNeg (h : Hs) (a : W) : R W := a.onI fun i => .ok (.int (-i)) h
def pAbs (h : Hs) (a : W) : R W := a.onI fun i => .ok (.int (Int.ofNat i.natAbs)) h
def pMin (h : Hs) (i j : Int) : R W := .ok (.int (ifB (ilt j i) j i)) h
def pMax (h : Hs) (i j : Int) : R W := .ok (.int (ifB (ilt i j) j i)) h
def ixOf (n : Nat) (i : Int) : Nat := Int.rec (fun k => k) (fun k => ifB (Nat.ble (k + 1) n) (n - (k + 1)) n) i
def pIx (h : Hs) (a b : W) : R W := h.at a fun _ o => o.items fun xs => b.onI fun i => Opt (nth xs (ixOf (len xs) i)) fun w => .ok w h
def pLen (h : Hs) (a : W) : R W := h.at a fun _ o => o.items fun xs => .ok (.int (.ofNat (len xs))) h
def isNon (w : W) : Bool := W.elim w true (fun _ => false) (fun _ => false) (fun _ => false) (fun _ => false)
def wD (h : Hs) (w : W) (f : D → R W) : R W := Opt (toD h 12 w) f
def pEq (f : Bool → Bool) (h : Hs) (a b : W) : R W := wD h a fun x => wD h b fun y => .yes (f (eqDD x y)) h
def pSame (h : Hs) (a b : W) : R W := wD h a fun x => wD h b fun y => .yes (sameD x y) h
def nonE (xs : List W) : Bool := List.rec false (fun _ _ _ => true) xs
def pTruth (h : Hs) (a : W) : R W := W.elim a (.yes false h) (fun b => .yes b h) (fun i => .yes (!ieq i 0) h) (fun _ => .no) (fun _ => h.at a fun _ o => o.items fun xs => .yes (nonE xs) h)
def pAppend (h : Hs) (a b : W) : R W := h.at a fun n o => o.onL fun xs => size xs (.ok .non (h.set n (.lst (app xs [b]))))
def init (xs : List W) : List W := List.rec [] (fun x r ih => List.rec [] (fun _ _ _ => x :: ih) r) xs
def last (xs : List W) : Option W := List.rec none (fun x _ ih => some (Option.rec x (fun y => y) ih)) xs
def pPop (h : Hs) (a : W) : R W := h.at a fun n o => o.onL fun xs => Opt (last xs) fun w => .ok w (h.set n (.lst (init xs)))
def pClear (h : Hs) (a : W) : R W := h.at a fun n o => o.onL fun _ => .ok .non (h.set n (.lst []))
def rev (xs : List W) : List W → List W := List.rec (fun acc => acc) (fun x _ ih acc => ih (x :: acc)) xs
def pReverse (h : Hs) (a : W) : R W := h.at a fun n o => o.onL fun xs => .ok .non (h.set n (.lst (rev xs [])))
def pExtend (h : Hs) (a b : W) : R W := h.at a fun n o => o.onL fun xs => h.at b fun _ o => o.onL fun ys => size (app xs ys) (.ok .non (h.set n (.lst (app xs ys))))
def pList (h : Hs) (a : W) : R W := h.at a fun _ o => o.items fun xs => .alloc h (.lst xs)
def eqF (a b : W) : Option Bool := W.elim a
  (W.elim b (some true) (fun _ => some false) (fun _ => some false) (fun _ => some false) (fun _ => none)) (fun _ => none)
  (fun i => W.elim b (some false) (fun _ => none) (fun j => some (ieq i j)) (fun _ => some false) (fun _ => none))
  (fun x => W.elim b (some false) (fun _ => none) (fun _ => some false) (fun y => some (codes x y)) (fun _ => none)) (fun _ => none)
def memF (a : W) (xs : List W) : Option Bool := List.rec (some false) (fun x _ ih => Option.rec none (fun b => Option.rec none (fun r => some (ifB b true r)) ih) (eqF x a)) xs
def pIn (f : Bool → Bool) (h : Hs) (a b : W) : R W := h.at b fun _ o => o.items fun xs => Opt (eqF a a) fun _ => Opt (memF a xs) fun c => .yes (f c) h
def bools (xs : List W) : Option (List Bool) := List.rec (some []) (fun x _ ih => W.elim x none (fun b => Option.rec none (fun r => some (b :: r)) ih) (fun _ => none) (fun _ => none) (fun _ => none)) xs
def allB (xs : List Bool) : Bool := List.rec true (fun b _ r => ifB b r false) xs
def anyB (xs : List Bool) : Bool := List.rec false (fun b _ r => ifB b true r) xs
def pAll (f : List Bool → Bool) (h : Hs) (a : W) : R W := h.at a fun _ o => o.onL fun xs => Opt (bools xs) fun bs => .yes (f bs) h
def kindO (o : O) : Option Nat := O.casesOn o (fun _ => some 3) (fun _ => some 4) (fun _ _ => none) (fun _ => none) (fun _ => none)
def pIsi (k : Nat) (h : Hs) (a : W) : R W := W.elim a (.yes false h) (fun _ => .yes (ifB (Nat.beq k 0) true (Nat.beq k 1)) h) (fun _ => .yes (Nat.beq k 0) h) (fun _ => .yes (Nat.beq k 2) h) (fun n => Opt (h.get n) fun o => Opt (kindO o) fun c => .yes (Nat.beq k c) h)
def pIntb (h : Hs) (a : W) : R W := W.elim a .no (fun b => .ok (.int (Bool.rec 0 1 b)) h) (fun i => .ok (.int i) h) (fun _ => .no) (fun _ => .no)
def lexI (xs : List W) : List W → Option Bool := List.rec (fun ys => some (List.rec false (fun _ _ _ => true) ys)) (fun x _ ih ys => List.rec (some false) (fun y r _ => W.elim x none (fun _ => none) (fun i => W.elim y none (fun _ => none) (fun j => ifB (ieq i j) (ih r) (some (ilt i j))) (fun _ => none) (fun _ => none)) (fun _ => none) (fun _ => none)) ys) xs
def intsQ (xs : List W) : Bool := List.rec true (fun x _ r => W.elim x false (fun _ => false) (fun _ => r) (fun _ => false) (fun _ => false)) xs
def pLt (h : Hs) (a b : W) : R W := W.elim a .no (fun _ => .no) (fun i => b.onI fun j => .yes (ilt i j) h) (fun _ => .no) (fun _ => h.at a fun _ x => h.at b fun _ y => x.onT fun xs => y.onT fun ys => ifB (intsQ xs) (ifB (intsQ ys) (Opt (lexI xs ys) fun c => .yes c h) .no) .no)
def tabOf (tb : List (List Nat × List Int)) (c : List Nat) : List Int := List.rec [] (fun p _ r => ifB (codes p.1 c) p.2 r) tb
def memZ (i : Int) (xs : List Int) : Bool := List.rec false (fun x _ r => ifB (ieq x i) true r) xs
def pTab (tb : List (List Nat × List Int)) (h : Hs) (a b : W) : R W := a.onI fun i => W.elim b .no (fun _ => .no) (fun _ => .no) (fun c => .yes (!memZ i (tabOf tb c)) h) (fun _ => .no)
def intsO (xs : List W) : Option (List Int) := List.rec (some []) (fun x _ ih => W.elim x none (fun _ => none) (fun i => Option.rec none (fun r => some (i :: r)) ih) (fun _ => none) (fun _ => none)) xs
def dd (l : List Int) : List Int → List Int := List.rec (fun acc => acc) (fun x _ ih acc => ih (ifB (memZ x acc) acc (app acc [x]))) l
def pLs (h : Hs) (a : W) : R W := h.at a fun _ o => o.onL fun xs => ifB (Nat.ble (len xs) 1000) (Opt (intsO xs) fun ns => .ok (.int (.ofNat (len (dd ns [])))) h) .no
def rngW (n : Nat) : Int → List W := Nat.rec (fun _ => []) (fun _ ih lo => .int lo :: ih (lo + 1)) n
def pLr (h : Hs) (i j : Int) : R W := ifB (ilt (-1000) i) (ifB (ilt i 1000) (ifB (ilt (-1000) j) (ifB (ilt j 1000) (.alloc h (.lst (rngW (j - i).toNat i))) .no) .no) .no) .no
def papp (p : Pr) (ws : List W) (h : Hs) : R W := match p with
  | .add => twoW ws (pAdd h)
  | .sub => twoI ws (pSub h)
  | .mul => twoW ws (pMul h)
  | .fdiv => twoI ws (pFdiv h)
  | .mod => twoI ws (pMod h)
  | .pow => twoI ws (pPow h)
  | .neg => oneW ws (pNeg h)
  | .abs => oneW ws (pAbs h)
  | .min => twoI ws (pMin h)
  | .max => twoI ws (pMax h)
  | .lt => twoW ws (pLt h)
  | .le => twoI ws fun i j => .yes (!ilt j i) h
  | .gt => twoI ws fun i j => .yes (ilt j i) h
  | .ge => twoI ws fun i j => .yes (!ilt i j) h
  | .eq => twoW ws (pEq id h)
  | .ne => twoW ws (pEq not h)
  | .ix => twoW ws (pIx h)
  | .len => oneW ws (pLen h)
  | .tup => size ws (.alloc h (.tup ws))
  | .lst => size ws (.alloc h (.lst ws))
  | .isN => oneW ws fun a => .yes (isNon a) h
  | .notN => oneW ws fun a => .yes (!isNon a) h
  | .notb => oneW ws fun a => a.onB (.yes true h) (.yes false h)
  | .truth => oneW ws (pTruth h)
  | .append => twoW ws (pAppend h)
  | .pop => oneW ws (pPop h)
  | .clear => oneW ws (pClear h)
  | .reverse => oneW ws (pReverse h)
  | .extend => twoW ws (pExtend h)
  | .list => oneW ws (pList h)
  | .in_ => twoW ws (pIn id h)
  | .notin => twoW ws (pIn not h)
  | .all => oneW ws (pAll allB h)
  | .any => oneW ws (pAll anyB h)
  | .isi k => oneW ws (pIsi k h)
  | .intb => oneW ws (pIntb h)
  | .same => twoW ws (pSame h)
  | .tab tb => twoW ws (pTab tb h)
  | .lenset => oneW ws (pLs h)
  | .lrng => twoI ws (pLr h)
inductive Tg where | nm (i : Nat) | tup (ts : List Tg)
mutual
inductive X where
  | var (i : Nat) | cst (w : W) | pr (p : Pr) (as : List X)
  | and (a b : X) | or (a b : X) | ite (c a b : X) | chain (p q : Pr) (a b c : X)
  | slice (a : X) (lo hi : Option X) | call (f : Nat) (as : List X)
  | comp (nt : Nat) (idx : List Nat) (it : I) (t : Tg) (c : Option X) (more : Option G) (e : X)
  | fld (C : Nat) (o : X) (f : List Nat) | meth (C : Nat) (m : List Nat) (f : Nat) (o : X) (as : List X) | make (C : Nat) (f : Nat) (as : List X)
  | told (nx : Nat) (idx : List Nat) (e : X) | lm (p : Pr) (a : X) (as : List X)
inductive I where | seq (e : X) | rng1 (as : List X) | rng2 (as : List X) | zip (as : List X)
inductive G where | mk (i : I) (t : Tg) (c : Option X)
end
inductive S where
  | asg (t : Tg) (e : X) | expr (e : X) | ret (e : X) | ife (c : X) (a b : List S)
  | for_ (i : I) (t : Tg) (b : List S) | while_ (c : X) (b : List S) | bk | ct
  | raise (C : Nat) (c : List Nat) | setf (C : Nat) (o : X) (f : List Nat) (e : X) | par (i j : Nat) (a b : X)
inductive Iv where | lst (n : Nat) | tup (n : Nat) | rng (lo : Int) (n : Nat)
inductive Fn where | mk (np n : Nat) (body : List S) | non
inductive Q where
  | x (e : X) | a (es : List X) | i (e : I) | s (s : S) | ss (l : List S)
  | lp (v : Iv) (i : Nat) (t : Tg) (b : List S) | wh (c : X) (b : List S)
  | cl (v : Iv) (i : Nat) (t : Tg) (c : Option X) (m : Option G) (e : X) (D : Nat)
  | call (f : Nat) (ws : List W)
inductive A where | w (w : W) | ws (l : List W) | iv (v : Iv) | fl (f : Fl) | u
def A.toW {β : Type} (a : A) (f : W → R β) : R β := A.rec f (fun _ => .no) (fun _ => .no) (fun _ => .no) .no a
def A.toL {β : Type} (a : A) (f : List W → R β) : R β := A.rec (fun _ => .no) f (fun _ => .no) (fun _ => .no) .no a
def A.toV {β : Type} (a : A) (f : Iv → R β) : R β := A.rec (fun _ => .no) (fun _ => .no) f (fun _ => .no) .no a
def A.toF {β : Type} (a : A) (f : Fl → R β) : R β := A.rec (fun _ => .no) (fun _ => .no) (fun _ => .no) f .no a
abbrev E := Nat → Q → Sg → Hs → R A
def ofW (r : R W) : R A := R.rec (fun w h => .ok (.w w) h) (fun C f h => .ex C f h) .no r
def bindL (f : Tg → W → Sg → Option Sg) (ts : List Tg) : List W → Sg → Option Sg := List.rec (fun ws τ => List.rec (some τ) (fun _ _ _ => none) ws) (fun t _ ih ws τ => List.rec none (fun w r _ => Option.rec none (fun τ => ih r τ) (f t w τ)) ws) ts
def bindT (h : Hs) (n : Nat) : Tg → W → Sg → Option Sg := Nat.rec (fun _ _ _ => none) (fun _ ih t w τ => Tg.casesOn t (fun i => some (setAt τ (some w) i)) fun ts =>
  W.elim w none (fun _ => none) (fun _ => none) (fun _ => none) fun k => Option.rec none (fun o => O.rec (fun xs => bindL ih ts xs τ) (fun _ => none) (fun _ _ => none) (fun _ => none) (fun _ => none) o) (h.get k)) n
def Iv.next {β : Type} (v : Iv) (i : Nat) (h : Hs) (fin : R β) (go : W → R β) : R β :=
  Iv.rec (fun n => Opt (h.get n) fun o => o.onS fun xs => Option.rec fin go (nth xs i)) (fun n => Opt (h.get n) fun o => o.onT fun xs => Option.rec fin go (nth xs i)) (fun lo n => Bool.rec fin (go (.int (lo + .ofNat i))) (Nat.ble (i + 1) n)) v
def blkS (nt : Nat) (idx : List Nat) (τ : Sg) : Sg := Nat.rec (List.rec [] (fun i _ r => getAt τ i :: r) idx) (fun _ r => none :: r) nt
def cutI (n : Nat) (i : Int) : Nat := Int.rec (fun k => ifB (Nat.ble k n) k n) (fun k => n - (k + 1)) i
def optX (V : E) (d : Nat) (e : Option X) (τ : Sg) (h : Hs) (k : Option Int → Hs → R A) : R A :=
  Option.rec (k none h) (fun e => (V d (.x e) τ h).bind fun a h => a.toW fun w => w.onI fun i => k (some i) h) e
def sIx (n d : Nat) (o : Option Int) : Nat := Option.rec d (cutI n) o
def xVar (τ : Sg) (h : Hs) (i : Nat) : R A := Opt (getAt τ i) fun w => .ok (.w w) h
def xPr (V : E) (d : Nat) (τ : Sg) (h : Hs) (p : Pr) (as : List X) : R A := (V d (.a as) τ h).bind fun a h => a.toL fun ws => ofW (papp p ws h)
def xAnd (V : E) (d : Nat) (τ : Sg) (h : Hs) (a b : X) : R A := (V d (.x a) τ h).bind fun r h => r.toW fun w => w.onB (.ok (.w (.bl false)) h) (V d (.x b) τ h)
def xOr (V : E) (d : Nat) (τ : Sg) (h : Hs) (a b : X) : R A := (V d (.x a) τ h).bind fun r h => r.toW fun w => w.onB (V d (.x b) τ h) (.ok (.w (.bl true)) h)
def xIte (V : E) (d : Nat) (τ : Sg) (h : Hs) (c a b : X) : R A := (V d (.x c) τ h).bind fun r h => r.toW fun w => w.onB (V d (.x b) τ h) (V d (.x a) τ h)
def xChain (V : E) (d : Nat) (τ : Sg) (h : Hs) (p q : Pr) (a b c : X) : R A := (V d (.x a) τ h).bind fun r h => r.toW fun u => (V d (.x b) τ h).bind fun r h => r.toW fun v => (ofW (papp p [u, v] h)).bind fun r h => r.toW fun k =>
  k.onB (.ok (.w (.bl false)) h) ((V d (.x c) τ h).bind fun r h => r.toW fun w => ofW (papp q [v, w] h))
def xSlice (V : E) (d : Nat) (τ : Sg) (h : Hs) (a : X) (lo hi : Option X) : R A := (V d (.x a) τ h).bind fun r h => r.toW fun w => optX V d lo τ h fun l h => optX V d hi τ h fun u h => h.at w fun _ o =>
  O.rec (fun xs => ifB (ifB (Nat.beq (sIx (len xs) 0 l) 0) (Nat.beq (sIx (len xs) (len xs) u) (len xs)) false) .no (ofW (.alloc h (.tup (tak (drp xs (sIx (len xs) 0 l)) (sIx (len xs) (len xs) u - sIx (len xs) 0 l)))))) (fun xs => ofW (.alloc h (.lst (tak (drp xs (sIx (len xs) 0 l)) (sIx (len xs) (len xs) u - sIx (len xs) 0 l))))) (fun _ _ => .no) (fun _ => .no) (fun _ => .no) o
def frame (n : Nat) (ws : List W) : Sg := app (List.rec [] (fun w _ r => some w :: r) ws) (Nat.rec [] (fun _ r => none :: r) (n - len ws))
def retOf (h : Hs) (f : Fl) : R A := Fl.rec (fun _ => .ok (.w .non) h) (fun w => .ok (.w w) h) (fun _ => .no) (fun _ => .no) f
def body (V : E) (d : Nat) (h : Hs) (ws : List W) (F : Fn) : R A := Fn.rec (fun np n b => ifB (Nat.beq (len ws) np) ((V d (.ss b) (frame n ws) h).bind fun r h => r.toF fun f => retOf h f) .no) .no F
def callF (Pg : List Fn) (V : E) (d : Nat) (h : Hs) (f : Nat) (ws : List W) : R A := Nat.rec .no (fun d _ => Opt (nth Pg f) (body V d h ws)) d
def xCall (V : E) (d : Nat) (τ : Sg) (h : Hs) (f : Nat) (as : List X) : R A := (V d (.a as) τ h).bind fun a h => a.toL fun ws => V d (.call f ws) [] h
def xComp (V : E) (d : Nat) (τ : Sg) (h : Hs) (nt : Nat) (idx : List Nat) (it : I) (t : Tg) (c : Option X) (m : Option G) (e : X) : R A := (V d (.i it) τ h).bind fun r h => r.toV fun v =>
  (V d (.cl v 0 t c m e h.n) (blkS nt idx τ) (h.push (.lst []))).nox.bind fun _ h' => .ok (.w (.ref h.n)) h'
def xFld (V : E) (d : Nat) (τ : Sg) (h : Hs) (C : Nat) (o : X) (f : List Nat) : R A := (V d (.x o) τ h).bind fun r h => r.toW fun w => h.at w fun _ o => o.onI fun C' fs => ifB (Nat.beq C C') (Opt (fget fs f) fun w => .ok (.w w) h) .no
def xMeth (V : E) (d : Nat) (τ : Sg) (h : Hs) (C : Nat) (m : List Nat) (f : Nat) (o : X) (as : List X) : R A := (V d (.x o) τ h).bind fun r h => r.toW fun w => h.at w fun _ o => o.onI fun C' fs =>
  ifB (Nat.beq C C') (Option.rec ((V d (.a as) τ h).bind fun a h => a.toL fun ws => V d (.call f (w :: ws)) [] h) (fun _ => .no) (fget fs m)) .no
def xMake (V : E) (d : Nat) (τ : Sg) (h : Hs) (C f : Nat) (as : List X) : R A := (V d (.a as) τ h).bind fun a h => a.toL fun ws => (V d (.call f (.ref h.n :: ws)) [] (h.push (.ins C []))).bind fun r h' => r.toW fun w => ifB (isNon w) (.ok (.w (.ref h.n)) h') .no
def toldT : List Nat := [116, 111, 108, 100]
def noT : List Nat := [110, 111]
def wordT : List Nat := [119, 111, 114, 100]
def xTold (V : E) (d : Nat) (τ : Sg) (h : Hs) (nx : Nat) (idx : List Nat) (e : X) : R A := Nat.rec .no (fun d _ => Nat.rec .no (fun d _ =>
  R.rec (fun r h => r.toW fun w => ofW (.alloc h (.tup [.str toldT, w]))) (fun C fs h => ifB (Nat.ble (C + 1) nx) (Opt (fget fs wordT) fun w => ofW (.alloc h (.tup [.str noT, w]))) .no) .no (V d (.x e) (blkS 0 idx τ) h)) d) d
def xLm (V : E) (d : Nat) (τ : Sg) (h : Hs) (p : Pr) (a : X) (as : List X) : R A := (V d (.x a) τ h).bind fun r h => r.toW fun w => h.at w fun _ o => o.onL fun _ => (V d (.a as) τ h).bind fun r h => r.toL fun ws => ofW (papp p (w :: ws) h)
def stepX (V : E) (d : Nat) (τ : Sg) (h : Hs) (e : X) : R A := X.casesOn e (xVar τ h) (fun w => .ok (.w w) h) (xPr V d τ h) (xAnd V d τ h) (xOr V d τ h) (xIte V d τ h) (xChain V d τ h) (xSlice V d τ h) (xCall V d τ h) (xComp V d τ h) (xFld V d τ h) (xMeth V d τ h) (xMake V d τ h) (xTold V d τ h) (xLm V d τ h)
def iLst (V : E) (d : Nat) (τ : Sg) (h : Hs) (e : X) : R A := (V d (.x e) τ h).bind fun r h => r.toW fun w => h.at w fun n o => O.casesOn o (fun _ => .ok (.iv (.tup n)) h) (fun _ => .ok (.iv (.lst n)) h) (fun _ _ => .no) (fun _ => .no) (fun _ => .no)
def within (i : Int) (k : R A) : R A := ifB (ilt i 1000000000) (ifB (ilt (-1000000000) i) k .no) .no
def oneA (ws : List W) (f : W → R A) : R A := List.rec .no (fun a r _ => List.rec (f a) (fun _ _ _ => .no) r) ws
def twoA (ws : List W) (f : W → W → R A) : R A := List.rec .no (fun a r _ => List.rec .no (fun b r _ => List.rec (f a b) (fun _ _ _ => .no) r) r) ws
def iRng1 (V : E) (d : Nat) (τ : Sg) (h : Hs) (as : List X) : R A := (V d (.a as) τ h).bind fun r h => r.toL fun ws => oneA ws fun w => w.onI fun j => within j (.ok (.iv (.rng 0 j.toNat)) h)
def iRng2 (V : E) (d : Nat) (τ : Sg) (h : Hs) (as : List X) : R A := (V d (.a as) τ h).bind fun r h => r.toL fun ws => twoA ws fun v w => v.onI fun i => w.onI fun j => within i (within j (.ok (.iv (.rng i (j - i).toNat)) h))
def stepI (V : E) (d : Nat) (τ : Sg) (h : Hs) (e : I) : R A := I.casesOn e (iLst V d τ h) (iRng1 V d τ h) (iRng2 V d τ h) (fun _ => .no)
def stepA (V : E) (d : Nat) (τ : Sg) (h : Hs) (es : List X) : R A := List.casesOn es (.ok (.ws []) h) fun e es => (V d (.x e) τ h).bind fun r h => r.toW fun w => (V d (.a es) τ h).bind fun r h => r.toL fun ws => .ok (.ws (w :: ws)) h
def sAsg (V : E) (d : Nat) (τ : Sg) (h : Hs) (t : Tg) (e : X) : R A := (V d (.x e) τ h).bind fun r h => r.toW fun w => Opt (bindT h 9 t w τ) fun τ => .ok (.fl (.nx τ)) h
def sExpr (V : E) (d : Nat) (τ : Sg) (h : Hs) (e : X) : R A := (V d (.x e) τ h).bind fun r h => r.toW fun _ => .ok (.fl (.nx τ)) h
def sRet (V : E) (d : Nat) (τ : Sg) (h : Hs) (e : X) : R A := (V d (.x e) τ h).bind fun r h => r.toW fun w => .ok (.fl (.rt w)) h
def sIf (V : E) (d : Nat) (τ : Sg) (h : Hs) (c : X) (a b : List S) : R A := (V d (.x c) τ h).bind fun r h => r.toW fun w => w.onB (V d (.ss b) τ h) (V d (.ss a) τ h)
def sFor (V : E) (d : Nat) (τ : Sg) (h : Hs) (i : I) (t : Tg) (b : List S) : R A := (V d (.i i) τ h).bind fun r h => r.toV fun v => V d (.lp v 0 t b) τ h
def sSetf (V : E) (d : Nat) (τ : Sg) (h : Hs) (C : Nat) (o : X) (f : List Nat) (e : X) : R A := (V d (.x e) τ h).bind fun r h => r.toW fun w => (V d (.x o) τ h).bind fun r h => r.toW fun o => h.at o fun n o => o.onI fun C' fs => ifB (Nat.beq C C') (ifB (Nat.ble (len fs) 900) (.ok (.fl (.nx τ)) (h.set n (.ins C (fput f w fs)))) .no) .no
def sPar (V : E) (d : Nat) (τ : Sg) (h : Hs) (i j : Nat) (a b : X) : R A := (V d (.a [a, b]) τ h).bind fun r h => r.toL fun ws => twoA ws fun u w => .ok (.fl (.nx (setAt (setAt τ (some u) i) (some w) j))) h
def stepS (V : E) (d : Nat) (τ : Sg) (h : Hs) (s : S) : R A := S.casesOn s (sAsg V d τ h) (sExpr V d τ h) (sRet V d τ h) (sIf V d τ h) (sFor V d τ h) (fun c b => V d (.wh c b) τ h) (.ok (.fl (.bk τ)) h) (.ok (.fl (.ct τ)) h) (fun C c => .ex C [(wordT, .str c)] h) (sSetf V d τ h) (sPar V d τ h)
def stepSs (V : E) (d : Nat) (τ : Sg) (h : Hs) (ss : List S) : R A := List.casesOn ss (.ok (.fl (.nx τ)) h) fun s ss => (V d (.s s) τ h).bind fun r h => r.toF fun f => Fl.rec (fun τ => V d (.ss ss) τ h) (fun w => .ok (.fl (.rt w)) h) (fun τ => .ok (.fl (.bk τ)) h) (fun τ => .ok (.fl (.ct τ)) h) f
def loopF (h : Hs) (f : Fl) (go : Sg → R A) : R A := Fl.rec go (fun w => .ok (.fl (.rt w)) h) (fun τ => .ok (.fl (.nx τ)) h) go f
def stepL (V : E) (d : Nat) (τ : Sg) (h : Hs) (v : Iv) (i : Nat) (t : Tg) (b : List S) : R A := v.next i h (.ok (.fl (.nx τ)) h) fun w => Opt (bindT h 9 t w τ) fun τ => (V d (.ss b) τ h).bind fun r h => r.toF fun f => loopF h f fun τ => V d (.lp v (i + 1) t b) τ h
def stepW (V : E) (d : Nat) (τ : Sg) (h : Hs) (c : X) (b : List S) : R A := (V d (.x c) τ h).bind fun r h => r.toW fun w => w.onB (.ok (.fl (.nx τ)) h) ((V d (.ss b) τ h).bind fun r h => r.toF fun f => loopF h f fun τ => V d (.wh c b) τ h)
def test (V : E) (d : Nat) (τ : Sg) (h : Hs) (c : Option X) (n k : Hs → R A) : R A := Option.rec (k h) (fun c => (V d (.x c) τ h).bind fun r h => r.toW fun w => w.onB (n h) (k h)) c
def emit (h : Hs) (D : Nat) (w : W) (k : Hs → R A) : R A := (pAppend h (.ref D) w).bind fun _ h => k h
def inner (V : E) (d : Nat) (τ : Sg) (h : Hs) (e : X) (D : Nat) (m : Option G) (k : Hs → R A) : R A :=
  Option.rec ((V d (.x e) τ h).bind fun r h => r.toW fun w => emit h D w k) (fun g => G.casesOn g fun i t c => (V d (.i i) τ h).bind fun r h => r.toV fun v => (V d (.cl v 0 t c none e D) τ h).bind fun _ h => k h) m
def stepC (V : E) (d : Nat) (τ : Sg) (h : Hs) (v : Iv) (i : Nat) (t : Tg) (c : Option X) (m : Option G) (e : X) (D : Nat) : R A := v.next i h (.ok .u h) fun w => Opt (bindT h 9 t w τ) fun τ1 =>
  test V d τ1 h c (fun h => V d (.cl v (i + 1) t c m e D) τ h) (fun h => inner V d τ1 h e D m fun h => V d (.cl v (i + 1) t c m e D) τ h)
def step (Pg : List Fn) (V : E) (d : Nat) (q : Q) (τ : Sg) (h : Hs) : R A := Q.casesOn q (stepX V d τ h) (stepA V d τ h) (stepI V d τ h) (stepS V d τ h) (stepSs V d τ h) (stepL V d τ h) (stepW V d τ h) (stepC V d τ h) (callF Pg V d h)
def evs (Pg : List Fn) (n : Nat) : E := Nat.rec (fun _ _ _ _ => .no) (fun _ V => step Pg V) n
end
end Ev

namespace Ev
theorem app_eq {α : Type} (xs ys : List α) : app xs ys = xs ++ ys := by
  induction xs with
  | nil => rfl
  | cons x xs ih => exact congrArg (x :: ·) ih
theorem len_eq {α : Type} (xs : List α) : len xs = xs.length := by
  induction xs with
  | nil => rfl
  | cons x xs ih => exact congrArg (· + 1) ih
theorem nth_eq {α : Type} (xs : List α) (i : Nat) : nth xs i = xs[i]? := by
  induction xs generalizing i with
  | nil => rfl
  | cons x xs ih => cases i with
    | zero => rfl
    | succ i => exact ih i
theorem setAt_eq {α : Type} (xs : List α) (w : α) (i : Nat) : setAt xs w i = xs.set i w := by
  induction xs generalizing i with
  | nil => cases i <;> rfl
  | cons x xs ih => cases i with
    | zero => rfl
    | succ i => exact congrArg (x :: ·) (ih i)
theorem getAt_eq (xs : Sg) (i : Nat) : getAt xs i = (xs[i]?).getD none := by
  induction xs generalizing i with
  | nil => cases i <;> rfl
  | cons x xs ih => cases i with
    | zero => rfl
    | succ i => exact ih i
theorem beq_t {a b : Nat} : Nat.beq a b = true ↔ a = b := ⟨Nat.eq_of_beq_eq_true, fun h => by subst h; exact Nat.beq_refl a⟩
theorem beq_f {a b : Nat} : Nat.beq a b = false ↔ a ≠ b := by
  rw [← Bool.not_eq_true, beq_t]
theorem ble_eq (a b : Nat) : Nat.ble a b = decide (a ≤ b) := by
  cases h : Nat.ble a b with
  | true => exact (decide_eq_true (Nat.le_of_ble_eq_true h)).symm
  | false => exact (decide_eq_false fun z => by rw [Nat.ble_eq_true_of_le z] at h; cases h).symm
theorem codes_t {x y : List Nat} : codes x y = true ↔ x = y := by
  induction x generalizing y with
  | nil => cases y with
    | nil => exact ⟨fun _ => rfl, fun _ => rfl⟩
    | cons b r => exact ⟨fun h => Bool.noConfusion h, fun h => nomatch h⟩
  | cons a x ih => cases y with
    | nil => exact ⟨fun h => Bool.noConfusion h, fun h => nomatch h⟩
    | cons b r =>
      show ifB (Nat.beq a b) (codes x r) false = true ↔ _
      cases e : Nat.beq a b with
      | true => rw [beq_t.mp e]; exact ih.trans ⟨fun h => by rw [h], fun h => (List.cons.inj h).2⟩
      | false => exact ⟨fun h => Bool.noConfusion h, fun h => absurd (List.cons.inj h).1 (beq_f.mp e)⟩
theorem ieq_eq (i j : Int) : ieq i j = decide (i = j) := by
  cases i with
  | ofNat a => cases j with
    | ofNat b =>
      show Nat.beq a b = _
      cases e : Nat.beq a b with
      | true => rw [beq_t.mp e]; exact (decide_eq_true rfl).symm
      | false => exact (decide_eq_false fun z => beq_f.mp e (Int.ofNat.inj z)).symm
    | negSucc b => exact (decide_eq_false fun z => nomatch z).symm
  | negSucc a => cases j with
    | ofNat b => exact (decide_eq_false fun z => nomatch z).symm
    | negSucc b =>
      show Nat.beq a b = _
      cases e : Nat.beq a b with
      | true => rw [beq_t.mp e]; exact (decide_eq_true rfl).symm
      | false => exact (decide_eq_false fun z => beq_f.mp e (Int.negSucc.inj z)).symm
theorem ilt_eq (i j : Int) : ilt i j = decide (i < j) := by
  cases i with
  | ofNat a => cases j with
    | ofNat b =>
      show Nat.ble (a + 1) b = _
      rw [ble_eq]
      exact decide_eq_decide.mpr ⟨fun h => by have : (a : Int) < b := by omega
                                              exact this, fun h => by have : (a : Int) < b := h
                                                                      omega⟩
    | negSucc b => exact (decide_eq_false (by intro h; have : (a : Int) < Int.negSucc b := h; omega)).symm
  | negSucc a => cases j with
    | ofNat b => exact (decide_eq_true (by show Int.negSucc a < (b : Int); omega)).symm
    | negSucc b =>
      show Nat.ble (b + 1) a = _
      rw [ble_eq]
      exact decide_eq_decide.mpr ⟨fun h => by omega, fun h => by omega⟩
theorem get_set (d : Nat) : ∀ (t : Tr) (k k' : Nat) (o : O), k < d → (t.set d k o).get k' = if k' = k then some o else t.get k' := by
  induction d with
  | zero => intro t k k' o h; exact absurd h (Nat.not_lt_zero _)
  | succ d ih =>
    intro t k k' o h
    have half : ∀ a b : Nat, a % 2 = b % 2 → (a / 2 = b / 2 ↔ a + 1 = b + 1) := fun a b e => by omega
    cases t with
    | lf =>
      cases k with
      | zero => cases k' with
        | zero => rfl
        | succ k' =>
          show ifB (Nat.beq (k' % 2) 0) (Tr.get .lf (k' / 2)) (Tr.get .lf (k' / 2)) = _
          rw [if_neg (by omega)]
          cases Nat.beq (k' % 2) 0 <;> rfl
      | succ k =>
        have hk : k / 2 < d := by omega
        show (ifB (Nat.beq (k % 2) 0) (Tr.nd none (Tr.set d .lf (k / 2) o) .lf) (Tr.nd none .lf (Tr.set d .lf (k / 2) o)) : Tr).get k' = _
        cases e : Nat.beq (k % 2) 0 with
        | true => cases k' with
          | zero => rfl
          | succ k' =>
            show ifB (Nat.beq (k' % 2) 0) (Tr.get (Tr.set d .lf (k / 2) o) (k' / 2)) (Tr.get .lf (k' / 2)) = _
            have e1 := beq_t.mp e
            cases e' : Nat.beq (k' % 2) 0 with
            | true =>
              have e2 := beq_t.mp e'
              show Tr.get (Tr.set d .lf (k / 2) o) (k' / 2) = _
              rw [ih .lf _ _ _ hk]
              by_cases z : k' / 2 = k / 2
              · rw [if_pos z, if_pos (by omega)]
              · rw [if_neg z, if_neg (by omega)]; rfl
            | false =>
              have e2 := beq_f.mp e'
              show none = _
              rw [if_neg (by intro z; apply e2; have : k' = k := by omega
                             rw [this]; exact e1)]; rfl
        | false => cases k' with
          | zero => rfl
          | succ k' =>
            show ifB (Nat.beq (k' % 2) 0) (Tr.get .lf (k' / 2)) (Tr.get (Tr.set d .lf (k / 2) o) (k' / 2)) = _
            have e1 := beq_f.mp e
            cases e' : Nat.beq (k' % 2) 0 with
            | false =>
              have e2 := beq_f.mp e'
              show Tr.get (Tr.set d .lf (k / 2) o) (k' / 2) = _
              rw [ih .lf _ _ _ hk]
              by_cases z : k' / 2 = k / 2
              · rw [if_pos z, if_pos (by omega)]
              · rw [if_neg z, if_neg (by omega)]; rfl
            | true =>
              have e2 := beq_t.mp e'
              show none = _
              rw [if_neg (by intro z; apply e1; have : k' = k := by omega
                             rw [← this]; exact e2)]; rfl
    | nd x l r =>
      cases k with
      | zero => cases k' with
        | zero => rfl
        | succ k' => rw [if_neg (by omega)]; rfl
      | succ k =>
        have hk : k / 2 < d := by omega
        show (ifB (Nat.beq (k % 2) 0) (Tr.nd x (Tr.set d l (k / 2) o) r) (Tr.nd x l (Tr.set d r (k / 2) o)) : Tr).get k' = _
        cases e : Nat.beq (k % 2) 0 with
        | true => cases k' with
          | zero => rfl
          | succ k' =>
            show ifB (Nat.beq (k' % 2) 0) (Tr.get (Tr.set d l (k / 2) o) (k' / 2)) (Tr.get r (k' / 2)) = (if k' + 1 = k + 1 then some o else ifB (Nat.beq (k' % 2) 0) (Tr.get l (k' / 2)) (Tr.get r (k' / 2)))
            have e1 := beq_t.mp e
            cases e' : Nat.beq (k' % 2) 0 with
            | true =>
              have e2 := beq_t.mp e'
              show Tr.get (Tr.set d l (k / 2) o) (k' / 2) = (if k' + 1 = k + 1 then some o else Tr.get l (k' / 2))
              rw [ih l _ _ _ hk]
              by_cases z : k' / 2 = k / 2
              · rw [if_pos z, if_pos (by omega)]
              · rw [if_neg z, if_neg (by omega)]
            | false =>
              have e2 := beq_f.mp e'
              show Tr.get r (k' / 2) = (if k' + 1 = k + 1 then some o else Tr.get r (k' / 2))
              rw [if_neg (by intro z; apply e2; have : k' = k := by omega
                             rw [this]; exact e1)]
        | false => cases k' with
          | zero => rfl
          | succ k' =>
            show ifB (Nat.beq (k' % 2) 0) (Tr.get l (k' / 2)) (Tr.get (Tr.set d r (k / 2) o) (k' / 2)) = (if k' + 1 = k + 1 then some o else ifB (Nat.beq (k' % 2) 0) (Tr.get l (k' / 2)) (Tr.get r (k' / 2)))
            have e1 := beq_f.mp e
            cases e' : Nat.beq (k' % 2) 0 with
            | false =>
              have e2 := beq_f.mp e'
              show Tr.get (Tr.set d r (k / 2) o) (k' / 2) = (if k' + 1 = k + 1 then some o else Tr.get r (k' / 2))
              rw [ih r _ _ _ hk]
              by_cases z : k' / 2 = k / 2
              · rw [if_pos z, if_pos (by omega)]
              · rw [if_neg z, if_neg (by omega)]
            | true =>
              have e2 := beq_t.mp e'
              show Tr.get l (k' / 2) = (if k' + 1 = k + 1 then some o else Tr.get l (k' / 2))
              rw [if_neg (by intro z; apply e1; have : k' = k := by omega
                             rw [← this]; exact e2)]
theorem Hs.n_push (h : Hs) (o : O) : (h.push o).n = h.n + 1 := by cases h; rfl
theorem Hs.n_set (h : Hs) (k : Nat) (o : O) : (h.set k o).n = h.n := by cases h; rfl
theorem Hs.get_push (h : Hs) (o : O) (k : Nat) : (h.push o).get k = if k = h.n then some o else h.get k := by
  cases h with | mk n t => exact get_set (n + 1) t n k o (Nat.lt_succ_self n)
theorem Hs.get_set (h : Hs) (o : O) (j k : Nat) : (h.set j o).get k = if k = j then some o else h.get k := by
  cases h with | mk n t => exact Ev.get_set (j + 1) t j k o (Nat.lt_succ_self j)
end Ev

set_option maxRecDepth 100000
set_option maxHeartbeats 4000000
namespace Ev
open PySem L2
inductive RW (ρ : List Addr) : W → V → Prop
  | non : RW ρ .non .non
  | bl (b) : RW ρ (.bl b) (.bl b)
  | int (i) : RW ρ (.int i) (.int i)
  | str (c) : RW ρ (.str c) (.str ⟨c.toArray⟩)
  | ref {n a} : ρ[n]? = some a → RW ρ (.ref n) (.ref a)
theorem RW.inj {ρ : List Addr} {w : W} {v v' : V} (h : RW ρ w v) (h' : RW ρ w v') : v = v' := by
  cases h <;> cases h' <;> first | rfl | skip
  rename_i a e a' e'
  rw [e] at e'; rw [Option.some.inj e']
theorem pre_get {ρ ρ' : List Addr} (e : ρ <+: ρ') {n : Nat} {a : Addr} (h : ρ[n]? = some a) : ρ'[n]? = some a := by
  obtain ⟨t, rfl⟩ := e
  have hn : n < ρ.length := (List.getElem?_eq_some_iff.mp h).1
  rw [List.getElem?_append_left hn]; exact h
theorem RW.mono {ρ ρ' : List Addr} (e : ρ <+: ρ') {w : W} {v : V} (h : RW ρ w v) : RW ρ' w v := by
  cases h with
  | non => exact .non
  | bl b => exact .bl b
  | int i => exact .int i
  | str c => exact .str c
  | ref h => exact .ref (pre_get e h)
abbrev RWs (ρ : List Addr) : List W → List V → Prop := Paired (RW ρ)
theorem RWs.mono {ρ ρ' : List Addr} (e : ρ <+: ρ') {ws : List W} {vs : List V} (h : RWs ρ ws vs) : RWs ρ' ws vs := Paired.mapP h fun _ _ r => r.mono e
theorem RWs.inj {ρ : List Addr} : ∀ {ws : List W} {vs vs' : List V}, RWs ρ ws vs → RWs ρ ws vs' → vs = vs'
  | _, _, _, .nil, .nil => rfl
  | _, _, _, .cons r t, .cons r' t' => by rw [r.inj r', RWs.inj t t']
theorem RWs.get {ρ : List Addr} : ∀ {ws : List W} {vs : List V} {i : Nat} {w : W}, RWs ρ ws vs → ws[i]? = some w → ∃ v, vs[i]? = some v ∧ RW ρ w v
  | _, _, _, _, .nil, e => by simp at e
  | _, _, 0, _, .cons r _, e => by simp at e; subst e; exact ⟨_, rfl, r⟩
  | _, _, i + 1, w, .cons _ t, e => by
    obtain ⟨u, h1, h2⟩ := RWs.get (i := i) (w := w) t (by simpa using e)
    exact ⟨u, by simpa using h1, h2⟩
theorem RWs.append {ρ : List Addr} : ∀ {xs ys : List W} {us ws : List V}, RWs ρ xs us → RWs ρ ys ws → RWs ρ (xs ++ ys) (us ++ ws)
  | _, _, _, _, .nil, s => s
  | _, _, _, _, .cons r t, s => .cons r (RWs.append t s)
theorem RWs.take {ρ : List Addr} : ∀ {xs : List W} {us : List V} (n : Nat), RWs ρ xs us → RWs ρ (xs.take n) (us.take n)
  | _, _, 0, _ => .nil
  | _, _, _ + 1, .nil => .nil
  | _, _, n + 1, .cons r t => .cons r (RWs.take n t)
theorem RWs.drop {ρ : List Addr} : ∀ {xs : List W} {us : List V} (n : Nat), RWs ρ xs us → RWs ρ (xs.drop n) (us.drop n)
  | _, _, 0, r => r
  | _, _, _ + 1, .nil => .nil
  | _, _, n + 1, .cons _ t => RWs.drop n t
theorem RWs.init {ρ : List Addr} : ∀ {xs : List W} {us : List V}, RWs ρ xs us → RWs ρ xs.dropLast us.dropLast
  | _, _, .nil => .nil
  | _, _, .cons r .nil => .nil
  | _, _, .cons r (.cons r' t) => .cons r (RWs.init (.cons r' t))
theorem RWs.length {ρ : List Addr} {ws : List W} {vs : List V} (h : RWs ρ ws vs) : ws.length = vs.length := Paired.length h
def RO (ρ : List Addr) : Option W → Option V → Prop
  | none, _ => True
  | some w, some v => RW ρ w v
  | some _, none => False
theorem RO.mono {ρ ρ' : List Addr} (e : ρ <+: ρ') : ∀ {w : Option W} {v : Option V}, RO ρ w v → RO ρ' w v
  | none, _, _ => trivial
  | some _, some _, h => RW.mono e h
abbrev RS (ρ : List Addr) : Sg → St → Prop := Paired (RO ρ)
theorem RS.mono {ρ ρ' : List Addr} (e : ρ <+: ρ') {τ : Sg} {σ : St} (h : RS ρ τ σ) : RS ρ' τ σ := Paired.mapP h fun _ _ r => r.mono e
theorem RS.get {ρ : List Addr} : ∀ {τ : Sg} {σ : St} {i : Nat} {w : W}, RS ρ τ σ → getAt τ i = some w → ∃ v, σ[i]? = some (some v) ∧ RW ρ w v
  | _, _, _, _, .nil, e => nomatch e
  | some _ :: _, some v :: _, 0, _, .cons r _, e => by cases e; exact ⟨v, rfl, r⟩
  | some _ :: _, none :: _, 0, _, .cons r _, e => r.elim
  | none :: _, _, 0, _, _, e => nomatch e
  | _ :: _, _ :: _, i + 1, w, .cons _ t, e => by
    obtain ⟨u, h1, h2⟩ := RS.get (i := i) (w := w) t e
    exact ⟨u, by simpa using h1, h2⟩
theorem RS.set {ρ : List Addr} {w : W} {v : V} (r : RW ρ w v) : ∀ {τ : Sg} {σ : St} (i : Nat), RS ρ τ σ → RS ρ (setAt τ (some w) i) (σ.set i (some v))
  | _, _, _, .nil => by rw [setAt_eq]; exact .nil
  | _ :: _, _ :: _, 0, .cons _ t => .cons (show RO ρ (some w) (some v) from r) t
  | _ :: _, _ :: _, i + 1, .cons q t => .cons q (RS.set r i t)
def nm (c : List Nat) : Str := ⟨c.toArray⟩
theorem nm_inj {a b : List Nat} (h : nm a = nm b) : a = b := by
  have := congrArg (fun s : Str => s.cps.toList) h
  simpa [nm] using this
def FR (ρ : List Addr) : Fs → List (Str × V) → Prop := Paired fun p q => q.1 = nm p.1 ∧ RW ρ p.2 q.2
theorem FR.mono {ρ ρ' : List Addr} (e : ρ <+: ρ') {fs : Fs} {gs : List (Str × V)} (h : FR ρ fs gs) : FR ρ' fs gs := Paired.mapP h fun _ _ r => ⟨r.1, r.2.mono e⟩
theorem FR.get {ρ : List Addr} {f : List Nat} : ∀ {fs : Fs} {gs : List (Str × V)} {w : W}, FR ρ fs gs → fget fs f = some w → ∃ v, gs.lookup (nm f) = some v ∧ RW ρ w v
  | _, _, _, .nil, e => nomatch e
  | p :: fs, (x, v) :: gs, w, .cons r t, e => by
    obtain ⟨e1, r1⟩ := r
    have e1 : x = nm p.1 := e1
    have e' : ifB (codes p.1 f) (some p.2) (fget fs f) = some w := e
    rw [List.lookup_cons]
    cases c : codes p.1 f with
    | true =>
      rw [c] at e'; cases e'
      rw [e1, codes_t.mp c]
      exact ⟨v, by simp, r1⟩
    | false =>
      rw [c] at e'
      have : (nm f == x) = false := by
        rw [e1]
        refine beq_eq_false_iff_ne.mpr fun z => ?_
        rw [codes_t.mpr (nm_inj z).symm] at c; cases c
      rw [this]
      exact FR.get t e'
theorem FR.nope {ρ : List Addr} {f : List Nat} : ∀ {fs : Fs} {gs : List (Str × V)}, FR ρ fs gs → fget fs f = none → gs.lookup (nm f) = none
  | _, _, .nil, e => rfl
  | p :: fs, (x, v) :: gs, .cons r t, e => by
    obtain ⟨e1, r1⟩ := r
    have e1 : x = nm p.1 := e1
    have e' : ifB (codes p.1 f) (some p.2) (fget fs f) = none := e
    rw [List.lookup_cons]
    cases c : codes p.1 f with
    | true => rw [c] at e'; cases e'
    | false =>
      rw [c] at e'
      have : (nm f == x) = false := by
        rw [e1]
        refine beq_eq_false_iff_ne.mpr fun z => ?_
        rw [codes_t.mpr (nm_inj z).symm] at c; cases c
      rw [this]
      exact FR.nope t e'
inductive KW : W → Key → Prop
  | int (i) : KW (.int i) (.inl i)
  | str (c) : KW (.str c) (.inr ⟨c.toArray⟩)
structure Cn where
  c : Nat → Addr
  P : Addr
  q : Str
  on : Bool
instance : CoeFun Cn (fun _ => Nat → Addr) := ⟨Cn.c⟩
section
variable (cl : Cn)
def Tb (H : Hp) : Prop := cl.on = true → ∃ ps, H cl.P = some (.tbl ps) ∧ TriplesOk ps.toList ∧ ∀ pos cv, codeAmong pos ps.toList = some cv → ∃ c', cv = .ref c' ∧ H c' = some (.ext fun h => h.CodeRec (.ref c') cl.q)
def OA (ρ : List Addr) (H : Hp) (a : Addr) : O → Prop
  | .tup xs => ∃ vs, RWs ρ xs vs ∧ H a = some (.tup vs)
  | .lst xs => ∃ vs, RWs ρ xs vs ∧ H a = some (.lst vs)
  | .ins C fs => ∃ dx gs, FR ρ fs gs ∧ H a = some (.ins (cl C) dx gs)
  | .dk kvs => ∃ gs, Paired (fun p q => KW p.1 q.1 ∧ RW ρ p.2 q.2) kvs gs ∧ H a = some (.dK gs)
  | .dt kvs => ∃ gs, Paired (fun p q => Paired KW p.1 q.1 ∧ RW ρ p.2 q.2) kvs gs ∧ H a = some (.dT gs)
structure Sim (ρ : List Addr) (h : Hs) (H : Hp) : Prop where
  len : ρ.length = h.n
  nd : ρ.Nodup
  obj : ∀ n a, ρ[n]? = some a → ∃ o, h.get n = some o ∧ OA cl ρ H a o
  tb : Tb cl H
end
section
variable {cl : Cn} {ρ ρ' : List Addr} {h : Hs} {H H' : Hp}
theorem OA.som {a : Addr} {o : O} (x : OA cl ρ H a o) : ∃ u, H a = some u := by
  cases o with
  | tup xs => exact ⟨_, x.choose_spec.2⟩
  | lst xs => exact ⟨_, x.choose_spec.2⟩
  | ins C fs => obtain ⟨_, _, _, e⟩ := x; exact ⟨_, e⟩
  | dk kvs => exact ⟨_, x.choose_spec.2⟩
  | dt kvs => exact ⟨_, x.choose_spec.2⟩
theorem OA.keep {a : Addr} {o : O} (x : OA cl ρ H a o) (e : ρ <+: ρ') (k : H' a = H a) : OA cl ρ' H' a o := by
  cases o with
  | tup xs => obtain ⟨vs, r, q⟩ := x; exact ⟨vs, r.mono e, k.trans q⟩
  | lst xs => obtain ⟨vs, r, q⟩ := x; exact ⟨vs, r.mono e, k.trans q⟩
  | ins C fs => obtain ⟨dx, gs, r, q⟩ := x; exact ⟨dx, gs, r.mono e, k.trans q⟩
  | dk kvs => obtain ⟨gs, r, q⟩ := x; exact ⟨gs, Paired.mapP r fun _ _ z => ⟨z.1, z.2.mono e⟩, k.trans q⟩
  | dt kvs => obtain ⟨gs, r, q⟩ := x; exact ⟨gs, Paired.mapP r fun _ _ z => ⟨z.1, z.2.mono e⟩, k.trans q⟩
def Pl : Option HO → Prop
  | some (.tbl _) => False
  | some (.ext _) => False
  | _ => True
theorem Tb.upd {p : Addr} {u : HO} (t : Tb cl H) (n : Pl (H p)) : Tb cl (upd H p u) := fun on => by
  obtain ⟨ps, h1, h2, h3⟩ := t on
  have ne : ∀ {b : Addr} {w : HO}, H b = some w → ¬ Pl (some w) → b ≠ p := fun {b w} e z q => by rw [q] at e; rw [e] at n; exact z n
  refine ⟨ps, by rw [upd_ne (ne h1 (fun z => z))]; exact h1, h2, fun pos cv e => ?_⟩
  obtain ⟨c', e1, e2⟩ := h3 pos cv e
  exact ⟨c', e1, by rw [upd_ne (ne e2 (fun z => z))]; exact e2⟩
theorem OA.pl {a : Addr} {o : O} (x : OA cl ρ H a o) : Pl (H a) := by
  cases o with
  | tup xs => rw [x.choose_spec.2]; trivial
  | lst xs => rw [x.choose_spec.2]; trivial
  | ins C fs => obtain ⟨_, _, _, e⟩ := x; rw [e]; trivial
  | dk kvs => rw [x.choose_spec.2]; trivial
  | dt kvs => rw [x.choose_spec.2]; trivial
theorem Sim.som (s : Sim cl ρ h H) {a : Addr} (e : a ∈ ρ) : ∃ u, H a = some u := by
  obtain ⟨n, hn⟩ := List.getElem?_of_mem e
  obtain ⟨o, _, x⟩ := s.obj n a hn
  exact x.som
theorem Sim.new (s : Sim cl ρ h H) {p : Addr} (e : H p = none) : p ∉ ρ := fun z => by
  obtain ⟨u, q⟩ := s.som z
  rw [e] at q; cases q
theorem Sim.at (s : Sim cl ρ h H) {n : Nat} {a : Addr} {o : O} (e : ρ[n]? = some a) (q : h.get n = some o) : OA cl ρ H a o := by
  obtain ⟨o', q', x⟩ := s.obj n a e
  rw [q] at q'; cases q'; exact x
theorem Sim.push (s : Sim cl ρ h H) {p : Addr} {u : HO} {o : O} (e : H p = none) (x : OA cl (ρ ++ [p]) (upd H p u) p o) : Sim cl (ρ ++ [p]) (h.push o) (upd H p u) where
  len := by rw [List.length_append, Hs.n_push, s.len]; rfl
  nd := List.nodup_append.mpr ⟨s.nd, by simp, fun a ha b hb z => by
    simp only [List.mem_singleton] at hb
    exact s.new e (by rw [← hb, ← z]; exact ha)⟩
  obj := fun n a hn => by
    rw [Hs.get_push]
    by_cases hlt : n < ρ.length
    · rw [List.getElem?_append_left hlt] at hn
      obtain ⟨o', q, y⟩ := s.obj n a hn
      refine ⟨o', by rw [if_neg (by rw [← s.len]; omega)]; exact q, y.keep (List.prefix_append _ _) ?_⟩
      obtain ⟨w, hw⟩ := y.som
      exact upd_ne (ne_of_none hw e)
    · have hn' : n = ρ.length := by
        have := (List.getElem?_eq_some_iff.mp hn).1
        rw [List.length_append] at this
        simp at this; omega
      subst hn'
      rw [List.getElem?_append_right (Nat.le_refl _), Nat.sub_self] at hn
      simp at hn; subst hn
      exact ⟨o, by rw [if_pos s.len], x⟩
  tb := s.tb.upd (by rw [e]; trivial)
theorem Sim.put (s : Sim cl ρ h H) {n : Nat} {a : Addr} {u : HO} {o : O} (e : ρ[n]? = some a) (x : OA cl ρ (upd H a u) a o) : Sim cl ρ (h.set n o) (upd H a u) where
  len := by rw [Hs.n_set, s.len]
  nd := s.nd
  obj := fun m b hm => by
    rw [Hs.get_set]
    by_cases z : m = n
    · subst z; rw [e] at hm; cases hm
      exact ⟨o, if_pos rfl, x⟩
    · obtain ⟨o', q, y⟩ := s.obj m b hm
      refine ⟨o', by rw [if_neg z]; exact q, y.keep (List.prefix_refl _) (upd_ne fun zz => z ?_)⟩
      subst zz
      exact (List.getElem?_inj (List.getElem?_eq_some_iff.mp hm).1 s.nd).mp (hm.trans e.symm)
  tb := by
    obtain ⟨o', _, y⟩ := s.obj n a e
    exact s.tb.upd y.pl
def Bt (cl : Cn) (ρ : List Addr) (H : Hp) (ρ' : List Addr) (H' : Hp) : Prop := ρ <+: ρ' ∧ ∀ b u, H b = some u → b ∉ ρ → b ∉ ρ' ∧ ((cl.on = true → b ≠ cl.P) → H' b = some u) ∧ ∃ u', H' b = some u'
theorem Bt.refl : Bt cl ρ H ρ H := ⟨List.prefix_refl _, fun _ u q n => ⟨n, fun _ => q, u, q⟩⟩
theorem Bt.trans {ρ'' : List Addr} {H'' : Hp} (x : Bt cl ρ H ρ' H') (y : Bt cl ρ' H' ρ'' H'') : Bt cl ρ H ρ'' H'' := ⟨x.1.trans y.1, fun b u q n => by
  obtain ⟨n1, q1, u1, q2⟩ := x.2 b u q n
  obtain ⟨n2, q3, u2, q4⟩ := y.2 b u1 q2 n1
  refine ⟨n2, fun c => ?_, u2, q4⟩
  have e := q1 c
  rw [q2] at e; cases e
  exact q3 c⟩
theorem Bt.new {p : Addr} {u : HO} (e : H p = none) : Bt cl ρ H (ρ ++ [p]) (upd H p u) := ⟨List.prefix_append _ _, fun b v q n => by
  have ne : b ≠ p := ne_of_none q e
  have q' : upd H p u b = some v := by rw [upd_ne ne]; exact q
  refine ⟨fun z => ?_, fun _ => q', v, q'⟩
  rcases List.mem_append.mp z with z | z
  · exact n z
  · simp at z; exact ne z⟩
theorem Bt.put {a : Addr} {u : HO} {n : Nat} (e : ρ[n]? = some a) : Bt cl ρ H ρ (upd H a u) := ⟨List.prefix_refl _, fun b v q nb => by
  have q' : upd H a u b = some v := by rw [upd_ne fun z => nb (by rw [z]; exact List.mem_of_getElem? e)]; exact q
  exact ⟨nb, fun _ => q', v, q'⟩⟩
end
section
variable (cl : Cn)
def Post (ρ : List Addr) (H : Hp) (E : XK) {α : Type} (r : R α) (P : α → Hs → List Addr → Hp → Prop) : Prop := match r with
  | .ok a h => ∀ ρ' H', Bt cl ρ H ρ' H' → Sim cl ρ' h H' → P a h ρ' H'
  | .ex C fs h => ∀ ρ' H' dx gs, Bt cl ρ H ρ' H' → Sim cl ρ' h H' → FR ρ' fs gs → dx ∉ ρ' → H' dx = some (.xd gs) → E (.ref (cl C)) (some dx) H'
  | .no => False
end
section
variable {cl : Cn} {ρ ρ' : List Addr} {h : Hs} {H H' : Hp} {E : XK} {α β : Type}
theorem Post.mono {r : R α} {P P' : α → Hs → List Addr → Hp → Prop} (x : Post cl ρ H E r P) (f : ∀ a h ρ' H', Bt cl ρ H ρ' H' → Sim cl ρ' h H' → P a h ρ' H' → P' a h ρ' H') : Post cl ρ H E r P' := by
  cases r with
  | ok a h => exact fun ρ' H' b s => f a h ρ' H' b s (x ρ' H' b s)
  | ex C fs h => exact x
  | no => exact x
theorem Post.later {r : R α} {P : α → Hs → List Addr → Hp → Prop} (x : Post cl ρ H E r P) (b : Bt cl ρ H ρ' H') : Post cl ρ' H' E r P := by
  cases r with
  | ok a h => exact fun ρ2 H2 b2 s => x ρ2 H2 (b.trans b2) s
  | ex C fs h => exact fun ρ2 H2 dx gs b2 s f n q => x ρ2 H2 dx gs (b.trans b2) s f n q
  | no => exact x
theorem Post.bind {r : R α} {f : α → Hs → R β} {P : β → Hs → List Addr → Hp → Prop} (x : Post cl ρ H E (r.bind f) P) : Post cl ρ H E r fun a h1 ρ1 H1 => Post cl ρ1 H1 E (f a h1) P := by
  cases r with
  | ok a h1 => exact fun ρ1 H1 b s1 => Post.later (ρ := ρ) (H := H) x b
  | ex C fs h1 => exact x
  | no => exact x
end
end Ev

set_option maxRecDepth 100000
set_option maxHeartbeats 4000000
namespace Ev
open PySem L2
section
variable (Pg : List Fn) (cl : Cn) (E : XK) (d : Nat)
def VP (Q : VK) : A → Hs → List Addr → Hp → Prop := fun r _ ρ H => ∃ w, r = .w w ∧ ∀ v, RW ρ w v → Q v H
def LP (Q : List V → Hp → Prop) : A → Hs → List Addr → Hp → Prop := fun r _ ρ H => ∃ ws, r = .ws ws ∧ ∀ vs, RWs ρ ws vs → Q vs H
def Ag (σ0 : St) (τ : Sg) (σ : St) : Prop := ∀ i, getAt τ i = none → σ[i]? = σ0[i]?
def FP (σ0 : St) (D : Ends) (ρ : List Addr) (H : Hp) : Fl → Prop
  | .nx τ => ∀ σ, RS ρ τ σ → Ag σ0 τ σ → D.nx σ H
  | .bk τ => ∀ σ, RS ρ τ σ → Ag σ0 τ σ → D.bk σ H
  | .ct τ => ∀ σ, RS ρ τ σ → Ag σ0 τ σ → D.ct σ H
  | .rt w => ∀ v, RW ρ w v → D.rt v H
def SPo (σ0 : St) (D : Ends) : A → Hs → List Addr → Hp → Prop := fun r _ ρ H => ∃ f, r = .fl f ∧ FP σ0 D ρ H f
def ev (q : Q) (σ : St) (H : Hp) (P : A → Hs → List Addr → Hp → Prop) : Prop := ∃ ρ τ h n, Sim cl ρ h H ∧ RS ρ τ σ ∧ Post cl ρ H E (evs Pg n d q τ h) P
def tE (a : X) : TE := fun σ H Q => ev Pg cl E d (.x a) σ H (VP Q)
def tT (a : X) : TT := fun σ H Q => ev Pg cl E d (.x a) σ H (VP fun v H' => ∃ b, v = .bl b ∧ Q b H')
def tA (as : List X) : TA := fun σ H Q => ev Pg cl E d (.a as) σ H (LP Q)
def evS (σ0 : St) (q : Q) (σ : St) (H : Hp) (P : A → Hs → List Addr → Hp → Prop) : Prop := ∃ ρ τ h n, Sim cl ρ h H ∧ RS ρ τ σ ∧ Ag σ0 τ σ ∧ Post cl ρ H E (evs Pg n d q τ h) P
def tS (σ0 : St) (s : S) : TS := fun D σ H => evS Pg cl E d σ0 (.s s) σ H (SPo σ0 D)
def tSs (σ0 : St) (s : List S) : TS := fun D σ H => evS Pg cl E d σ0 (.ss s) σ H (SPo σ0 D)
end
section
variable {Pg : List Fn} {cl : Cn} {E : XK} {d : Nat} {X : Cx} {σ : St} {H : Hp} {P : A → Hs → List Addr → Hp → Prop}
theorem PE.of {e : Expr} {t t' : TE} (h : PE X e t) (f : ∀ σ H Q, t' σ H Q → t σ H Q) : PE X e t' := fun pins s σ H Q I q => h pins s σ H Q I (f σ H Q q)
theorem PT.of {e : Expr} {t t' : TT} (h : PT X e t) (f : ∀ σ H Q, t' σ H Q → t σ H Q) : PT X e t' := fun pins s σ H Q I q => h pins s σ H Q I (f σ H Q q)
theorem PW.of {e : Expr} {t t' : TT} (h : PW X e t) (f : ∀ σ H Q, t' σ H Q → t σ H Q) : PW X e t' := fun wh pins s σ H Q I q => h wh pins s σ H Q I (f σ H Q q)
theorem PA.of {es : List Expr} {t t' : TA} (h : PA X es t) (f : ∀ σ H Q, t' σ H Q → t σ H Q) : PA X es t' := fun pos pins s σ H Q I q => h pos pins s σ H Q I (f σ H Q q)
theorem PS.of {e : Stmt} {t t' : TS} (h : PS X e t) (f : ∀ D σ H, t' D σ H → t D σ H) : PS X e t' := fun pins s σ H D I q => h pins s σ H D I (f D σ H q)
theorem PSs.of {e : List Stmt} {t t' : TS} (h : PSs X e t) (f : ∀ D σ H, t' D σ H → t D σ H) : PSs X e t' := fun pins s σ H D I q => h pins s σ H D I (f D σ H q)
theorem ev.step {q : Q} (x : ev Pg cl E d q σ H P) : ∃ ρ τ h n, Sim cl ρ h H ∧ RS ρ τ σ ∧ Post cl ρ H E (step Pg (evs Pg n) d q τ h) P := by
  obtain ⟨ρ, τ, h, n, s, r, p⟩ := x
  cases n with
  | zero => exact p.elim
  | succ n => exact ⟨ρ, τ, h, n, s, r, p⟩
theorem evS.step {q : Q} {σ0 : St} (x : evS Pg cl E d σ0 q σ H P) : ∃ ρ τ h n, Sim cl ρ h H ∧ RS ρ τ σ ∧ Ag σ0 τ σ ∧ Post cl ρ H E (step Pg (evs Pg n) d q τ h) P := by
  obtain ⟨ρ, τ, h, n, s, r, g, p⟩ := x
  cases n with
  | zero => exact p.elim
  | succ n => exact ⟨ρ, τ, h, n, s, r, g, p⟩
theorem ev.then {q : Q} {ρ : List Addr} {τ : Sg} {h : Hs} {n : Nat} {f : A → Hs → R A} {P P' : A → Hs → List Addr → Hp → Prop} (s : Sim cl ρ h H) (r : RS ρ τ σ) (p : Post cl ρ H E ((evs Pg n d q τ h).bind f) P)
    (g : ∀ a h1 ρ1 H1, Bt cl ρ H ρ1 H1 → Sim cl ρ1 h1 H1 → Post cl ρ1 H1 E (f a h1) P → P' a h1 ρ1 H1) : ev Pg cl E d q σ H P' := ⟨ρ, τ, h, n, s, r, p.bind.mono g⟩
theorem evS.then {q : Q} {σ0 : St} {ρ : List Addr} {τ : Sg} {h : Hs} {n : Nat} {f : A → Hs → R A} {P P' : A → Hs → List Addr → Hp → Prop} (s : Sim cl ρ h H) (r : RS ρ τ σ) (ag : Ag σ0 τ σ) (p : Post cl ρ H E ((evs Pg n d q τ h).bind f) P)
    (g : ∀ a h1 ρ1 H1, Bt cl ρ H ρ1 H1 → Sim cl ρ1 h1 H1 → Post cl ρ1 H1 E (f a h1) P → P' a h1 ρ1 H1) : evS Pg cl E d σ0 q σ H P' := ⟨ρ, τ, h, n, s, r, ag, p.bind.mono g⟩
theorem toW_of {ρ : List Addr} {H : Hp} {a : A} {f : W → R A} (p : Post cl ρ H E (a.toW f) P) : ∃ w, a = .w w ∧ Post cl ρ H E (f w) P := by
  cases a with
  | w w => exact ⟨w, rfl, p⟩
  | _ => exact p.elim
theorem toL_of {ρ : List Addr} {H : Hp} {a : A} {f : List W → R A} (p : Post cl ρ H E (a.toL f) P) : ∃ w, a = .ws w ∧ Post cl ρ H E (f w) P := by
  cases a with
  | ws w => exact ⟨w, rfl, p⟩
  | _ => exact p.elim
theorem toV_of {ρ : List Addr} {H : Hp} {a : A} {f : Iv → R A} (p : Post cl ρ H E (a.toV f) P) : ∃ w, a = .iv w ∧ Post cl ρ H E (f w) P := by
  cases a with
  | iv w => exact ⟨w, rfl, p⟩
  | _ => exact p.elim
theorem toF_of {ρ : List Addr} {H : Hp} {a : A} {f : Fl → R A} (p : Post cl ρ H E (a.toF f) P) : ∃ w, a = .fl w ∧ Post cl ρ H E (f w) P := by
  cases a with
  | fl w => exact ⟨w, rfl, p⟩
  | _ => exact p.elim
theorem Opt_of {ρ : List Addr} {H : Hp} {α β : Type} {o : Option α} {f : α → R β} {P : β → Hs → List Addr → Hp → Prop} (p : Post cl ρ H E (Opt o f) P) : ∃ w, o = some w ∧ Post cl ρ H E (f w) P := by
  cases o with
  | some w => exact ⟨w, rfl, p⟩
  | none => exact p.elim
theorem onI_of {ρ : List Addr} {H : Hp} {β : Type} {w : W} {f : Int → R β} {P : β → Hs → List Addr → Hp → Prop} (p : Post cl ρ H E (w.onI f) P) : ∃ i, w = .int i ∧ Post cl ρ H E (f i) P := by
  cases w with
  | int w => exact ⟨w, rfl, p⟩
  | _ => exact p.elim
theorem onR_of {ρ : List Addr} {H : Hp} {β : Type} {w : W} {f : Nat → R β} {P : β → Hs → List Addr → Hp → Prop} (p : Post cl ρ H E (w.onR f) P) : ∃ i, w = .ref i ∧ Post cl ρ H E (f i) P := by
  cases w with
  | ref w => exact ⟨w, rfl, p⟩
  | _ => exact p.elim
theorem onB_of {ρ : List Addr} {H : Hp} {β : Type} {w : W} {f t : R β} {P : β → Hs → List Addr → Hp → Prop} (p : Post cl ρ H E (w.onB f t) P) : (w = .bl true ∧ Post cl ρ H E t P) ∨ (w = .bl false ∧ Post cl ρ H E f P) := by
  cases w with
  | bl b => cases b with
    | true => exact .inl ⟨rfl, p⟩
    | false => exact .inr ⟨rfl, p⟩
  | _ => exact p.elim
theorem ifB_of {ρ : List Addr} {H : Hp} {β : Type} {b : Bool} {t : R β} {P : β → Hs → List Addr → Hp → Prop} (p : Post cl ρ H E (ifB b t .no) P) : b = true ∧ Post cl ρ H E t P := by
  cases b with
  | true => exact ⟨rfl, p⟩
  | false => exact p.elim
theorem at_of {ρ : List Addr} {H : Hp} {h : Hs} {β : Type} {w : W} {f : Nat → O → R β} {P : β → Hs → List Addr → Hp → Prop} (s : Sim cl ρ h H) {v : V} (r : RW ρ w v) (p : Post cl ρ H E (h.at w f) P) :
    ∃ n o a, w = .ref n ∧ v = .ref a ∧ ρ[n]? = some a ∧ h.get n = some o ∧ OA cl ρ H a o ∧ Post cl ρ H E (f n o) P := by
  obtain ⟨n, rfl, p⟩ := onR_of p
  obtain ⟨o, e, p⟩ := Opt_of p
  cases r with
  | ref q => exact ⟨n, o, _, rfl, rfl, q, e, s.at q e, p⟩
theorem onL_of {ρ : List Addr} {H : Hp} {β : Type} {o : O} {f : List W → R β} {P : β → Hs → List Addr → Hp → Prop} (p : Post cl ρ H E (o.onL f) P) : ∃ xs, o = .lst xs ∧ Post cl ρ H E (f xs) P := by
  cases o with
  | lst xs => exact ⟨xs, rfl, p⟩
  | _ => exact p.elim
theorem onIn_of {ρ : List Addr} {H : Hp} {β : Type} {o : O} {f : Nat → Fs → R β} {P : β → Hs → List Addr → Hp → Prop} (p : Post cl ρ H E (o.onI f) P) : ∃ C fs, o = .ins C fs ∧ Post cl ρ H E (f C fs) P := by
  cases o with
  | ins C fs => exact ⟨C, fs, rfl, p⟩
  | _ => exact p.elim
theorem Post.now {ρ : List Addr} {H : Hp} {h : Hs} {α : Type} {a : α} {P : α → Hs → List Addr → Hp → Prop} (s : Sim cl ρ h H) (p : Post cl ρ H E (.ok a h) P) : P a h ρ H := p ρ H Bt.refl s
theorem Post.nowV {ρ : List Addr} {H : Hp} {h : Hs} {w : W} {v : V} {Q : VK} (s : Sim cl ρ h H) (p : Post cl ρ H E (.ok (.w w) h) (VP Q)) (r : RW ρ w v) : Q v H := by
  obtain ⟨w', e, q⟩ := p.now s
  cases e; exact q v r
theorem Post.new {ρ : List Addr} {H : Hp} {h : Hs} {o : O} {u : HO} {p : Addr} {Q : VK} (s : Sim cl ρ h H) (x : Post cl ρ H E (ofW (.alloc h o)) (VP Q)) (e : H p = none) (z : OA cl (ρ ++ [p]) (upd H p u) p o) : Q (.ref p) (upd H p u) := by
  obtain ⟨w', e', q⟩ := x (ρ ++ [p]) (upd H p u) (Bt.new e) (s.push e z)
  cases e'
  exact q _ (.ref (by rw [← s.len, List.getElem?_append_right (Nat.le_refl _), Nat.sub_self]; rfl))
theorem Post.newL {ρ : List Addr} {H : Hp} {h : Hs} {xs : List W} {vs : List V} {p : Addr} {Q : VK} (s : Sim cl ρ h H) (x : Post cl ρ H E (ofW (.alloc h (.lst xs))) (VP Q)) (e : H p = none) (r : RWs ρ xs vs) : Q (.ref p) (upd H p (.lst vs)) :=
  x.new s e ⟨vs, r.mono (List.prefix_append _ _), upd_same⟩
theorem Post.newT {ρ : List Addr} {H : Hp} {h : Hs} {xs : List W} {vs : List V} {p : Addr} {Q : VK} (s : Sim cl ρ h H) (x : Post cl ρ H E (ofW (.alloc h (.tup xs))) (VP Q)) (e : H p = none) (r : RWs ρ xs vs) : Q (.ref p) (upd H p (.tup vs)) :=
  x.new s e ⟨vs, r.mono (List.prefix_append _ _), upd_same⟩
theorem Post.putL {ρ : List Addr} {H : Hp} {h : Hs} {xs : List W} {vs : List V} {n : Nat} {a : Addr} {w : W} {v : V} {Q : VK} (s : Sim cl ρ h H) (x : Post cl ρ H E (ofW (.ok w (h.set n (.lst xs)))) (VP Q)) (e : ρ[n]? = some a) (r : RWs ρ xs vs) (rw : RW ρ w v) : Q v (upd H a (.lst vs)) := by
  obtain ⟨w', e', q⟩ := x ρ (upd H a (.lst vs)) (Bt.put e) (s.put e ⟨vs, r, upd_same⟩)
  cases e'
  exact q _ rw

theorem de_var {i : Nat} {x : Str} {pos : Pos} (hN : X.N[i]? = some x := by rfl) (hv : Vis X.env.scope x := by first | exact Or.inl rfl | exact Or.inr (Or.inl rfl) | exact Or.inr (Or.inr rfl)) (hd : (x == ("__debug__" : Str)) = false := by decide)
    (hcd : (x == ("__classdict__" : Str)) = false := by decide) : PE X (.Name x pos) (tE Pg cl E d (.var i)) := PE.of (pe_var hN hv hd hcd) fun σ H Q x => by
  obtain ⟨ρ, τ, h, n, s, r, p⟩ := x.step
  obtain ⟨w, e, p⟩ := Opt_of (show Post cl ρ H E (Opt (getAt τ i) fun w => .ok (.w w) h) (VP Q) from p)
  obtain ⟨v, ev, rv⟩ := r.get e
  exact ⟨v, ev, p.nowV s rv⟩
theorem de_cst {e : Expr} {w : W} {v : V} (h : PE X e (tC v)) (r : RW [] w v) : PE X e (tE Pg cl E d (.cst w)) := PE.of h fun σ H Q x => by
  obtain ⟨ρ, τ, h, n, s, _, p⟩ := x.step
  exact Post.nowV s (show Post cl ρ H E (.ok (.w w) h) (VP Q) from p) (r.mono (List.nil_prefix))
theorem de_int {i : Int} {j pos} : PE X (.Constant (.int i) j pos) (tE Pg cl E d (.cst (.int i))) := de_cst pe_int (.int i)
theorem de_bl {b j pos} : PE X (.Constant (.bool b) j pos) (tE Pg cl E d (.cst (.bl b))) := de_cst pe_bl (.bl b)
theorem de_str (c : List Nat) {x : Str} {j pos} (e : x = ⟨c.toArray⟩ := by decide +kernel) : PE X (.Constant (.str x) j pos) (tE Pg cl E d (.cst (.str c))) := by
  subst e; exact de_cst pe_str (.str c)
theorem da_nil : PA X [] (tA Pg cl E d []) := PA.of pa_nil fun σ H Q x => by
  obtain ⟨ρ, τ, h, n, s, _, p⟩ := x.step
  obtain ⟨ws, e, q⟩ := Post.now s (show Post cl ρ H E (.ok (.ws []) h) (LP Q) from p)
  cases e; exact q [] .nil
theorem da_cons {e : Expr} {es : List Expr} {a : Ev.X} {as : List Ev.X} (ha : PE X e (tE Pg cl E d a)) (hr : PA X es (tA Pg cl E d as)) (hs : starEach (e :: es) X.env = (false, eval e X.env) :: starEach es X.env := by rfl) : PA X (e :: es) (tA Pg cl E d (a :: as)) :=
  PA.of (pa_cons ha hr hs) fun σ H Q x => by
  obtain ⟨ρ, τ, h, n, s, r, p⟩ := x.step
  refine ev.then s r (show Post cl ρ H E ((evs Pg n d (.x a) τ h).bind fun r h => r.toW fun w => (evs Pg n d (.a as) τ h).bind fun r h => r.toL fun ws => .ok (.ws (w :: ws)) h) (LP Q) from p) fun a1 h1 ρ1 H1 b1 s1 p1 => ?_
  obtain ⟨w, rfl, p1⟩ := toW_of p1
  refine ⟨w, rfl, fun v rv => ?_⟩
  refine ev.then s1 (r.mono b1.1) p1 fun a2 h2 ρ2 H2 b2 s2 p2 => ?_
  obtain ⟨ws, rfl, p2⟩ := toL_of p2
  refine ⟨ws, rfl, fun vs rs => ?_⟩
  obtain ⟨ws', e, q⟩ := p2.now s2
  cases e
  exact q _ (.cons (rv.mono b2.1) rs)
def Op2 (cl : Cn) (p : Pr) (r : R2) : Prop := ∀ (E : XK) (ρ : List Addr) (h : Hs) (H : Hp) (w1 w2 : W) (v1 v2 : V) (Q : VK), Sim cl ρ h H → RW ρ w1 v1 → RW ρ w2 v2 → Post cl ρ H E (ofW (papp p [w1, w2] h)) (VP Q) → r v1 v2 H Q
def Op1 (cl : Cn) (p : Pr) (r : V → Hp → VK → Prop) : Prop := ∀ (E : XK) (ρ : List Addr) (h : Hs) (H : Hp) (w1 : W) (v1 : V) (Q : VK), Sim cl ρ h H → RW ρ w1 v1 → Post cl ρ H E (ofW (papp p [w1] h)) (VP Q) → r v1 H Q
theorem two_of {p : Pr} {r : R2} (o : Op2 cl p r) {a b : Ev.X} {Q : VK} (x : tE Pg cl E d (.pr p [a, b]) σ H Q) : tOp r (tE Pg cl E d a) (tE Pg cl E d b) σ H Q := by
  obtain ⟨ρ, τ, h, n, s, rs, q⟩ := x.step
  have q : Post cl ρ H E ((evs Pg n d (.a [a, b]) τ h).bind fun a h => a.toL fun ws => ofW (papp p ws h)) (VP Q) := q
  cases n with
  | zero => exact q.elim
  | succ n =>
    have q1 := q.bind
    refine ev.then s rs (show Post cl ρ H E ((evs Pg n d (.x a) τ h).bind fun r h => r.toW fun w => (evs Pg n d (.a [b]) τ h).bind fun r h => r.toL fun ws => .ok (.ws (w :: ws)) h) _ from q1) fun a1 h1 ρ1 H1 b1 s1 p1 => ?_
    obtain ⟨w1, rfl, pz⟩ := toW_of p1
    clear p1
    refine ⟨w1, rfl, fun v1 rv1 => ?_⟩
    cases n with
    | zero => exact pz.elim
    | succ n =>
      have p1' := pz.bind
      refine ev.then s1 (rs.mono b1.1) (show Post cl ρ1 H1 E ((evs Pg n d (.x b) τ h1).bind fun r h => r.toW fun w => (evs Pg n d (.a []) τ h).bind fun r h => r.toL fun ws => .ok (.ws (w :: ws)) h) _ from p1') fun a2 h2 ρ2 H2 b2 s2 p2 => ?_
      obtain ⟨w2, rfl, pz⟩ := toW_of p2
      clear p2
      refine ⟨w2, rfl, fun v2 rv2 => ?_⟩
      cases n with
      | zero => exact pz.elim
      | succ n =>
        have p3 := Post.now s2 (show Post cl ρ2 H2 E (.ok (A.ws [w2]) h2) _ from pz)
        have p4 := Post.now s2 (show Post cl ρ2 H2 E (.ok (A.ws [w1, w2]) h2) _ from p3)
        exact o E ρ2 h2 H2 w1 w2 v1 v2 Q s2 (rv1.mono b2.1) rv2 p4
theorem one_of {p : Pr} {r : V → Hp → VK → Prop} (o : Op1 cl p r) {a : Ev.X} {Q : VK} (x : tE Pg cl E d (.pr p [a]) σ H Q) : tUn r (tE Pg cl E d a) σ H Q := by
  obtain ⟨ρ, τ, h, n, s, rs, q⟩ := x.step
  have q : Post cl ρ H E ((evs Pg n d (.a [a]) τ h).bind fun a h => a.toL fun ws => ofW (papp p ws h)) (VP Q) := q
  cases n with
  | zero => exact q.elim
  | succ n =>
    have q1 := q.bind
    refine ev.then s rs (show Post cl ρ H E ((evs Pg n d (.x a) τ h).bind fun r h => r.toW fun w => (evs Pg n d (.a []) τ h).bind fun r h => r.toL fun ws => .ok (.ws (w :: ws)) h) _ from q1) fun a1 h1 ρ1 H1 b1 s1 p1 => ?_
    obtain ⟨w1, rfl, pz⟩ := toW_of p1
    clear p1
    refine ⟨w1, rfl, fun v1 rv1 => ?_⟩
    cases n with
    | zero => exact pz.elim
    | succ n =>
      have p3 := Post.now s1 (show Post cl ρ1 H1 E (.ok (A.ws [w1]) h1) _ from pz)
      exact o E ρ1 h1 H1 w1 v1 Q s1 rv1 p3
def OpN (cl : Cn) (p : Pr) (r : List V → Hp → VK → Prop) : Prop := ∀ (E : XK) (ρ : List Addr) (h : Hs) (H : Hp) (ws : List W) (vs : List V) (Q : VK), Sim cl ρ h H → RWs ρ ws vs → Post cl ρ H E (ofW (papp p ws h)) (VP Q) → r vs H Q
theorem n_of {p : Pr} {r : List V → Hp → VK → Prop} (o : OpN cl p r) {as : List Ev.X} {Q : VK} (x : tE Pg cl E d (.pr p as) σ H Q) : tCB r (tA Pg cl E d as) σ H Q := by
  obtain ⟨ρ, τ, h, n, s, rs, q⟩ := x.step
  refine ev.then s rs (show Post cl ρ H E ((evs Pg n d (.a as) τ h).bind fun a h => a.toL fun ws => ofW (papp p ws h)) (VP Q) from q) fun a1 h1 ρ1 H1 b1 s1 p1 => ?_
  obtain ⟨ws, rfl, p1⟩ := toL_of p1
  exact ⟨ws, rfl, fun vs rv => o E ρ1 h1 H1 ws vs Q s1 rv p1⟩
end
end Ev

set_option maxRecDepth 100000
set_option maxHeartbeats 4000000
namespace Ev
open PySem L2
section
variable {cl : Cn} {E : XK} {ρ : List Addr} {H : Hp} {h : Hs} {P : A → Hs → List Addr → Hp → Prop}
theorem oI {w : W} {f : Int → R W} (p : Post cl ρ H E (ofW (w.onI f)) P) : ∃ i, w = .int i ∧ Post cl ρ H E (ofW (f i)) P := by
  cases w with
  | int w => exact ⟨w, rfl, p⟩
  | _ => exact p.elim
theorem oB {w : W} {f t : R W} (p : Post cl ρ H E (ofW (w.onB f t)) P) : ∃ b, w = .bl b ∧ Post cl ρ H E (ofW (ifB b t f)) P := by
  cases w with
  | bl b => exact ⟨b, rfl, p⟩
  | _ => exact p.elim
theorem oIf {b : Bool} {t : R W} (p : Post cl ρ H E (ofW (ifB b t .no)) P) : b = true ∧ Post cl ρ H E (ofW t) P := by
  cases b with
  | true => exact ⟨rfl, p⟩
  | false => exact p.elim
theorem oOpt {α : Type} {o : Option α} {f : α → R W} (p : Post cl ρ H E (ofW (Opt o f)) P) : ∃ w, o = some w ∧ Post cl ρ H E (ofW (f w)) P := by
  cases o with
  | some w => exact ⟨w, rfl, p⟩
  | none => exact p.elim
theorem oAt {w : W} {f : Nat → O → R W} (s : Sim cl ρ h H) {v : V} (r : RW ρ w v) (p : Post cl ρ H E (ofW (h.at w f)) P) :
    ∃ n o a, w = .ref n ∧ v = .ref a ∧ ρ[n]? = some a ∧ h.get n = some o ∧ OA cl ρ H a o ∧ Post cl ρ H E (ofW (f n o)) P := by
  cases w with
  | ref n =>
    obtain ⟨o, e, p⟩ := oOpt (show Post cl ρ H E (ofW (Opt (h.get n) (f n))) P from p)
    cases r with
    | ref q => exact ⟨n, o, _, rfl, rfl, q, e, s.at q e, p⟩
  | _ => exact p.elim
theorem oL {o : O} {f : List W → R W} (p : Post cl ρ H E (ofW (o.onL f)) P) : ∃ xs, o = .lst xs ∧ Post cl ρ H E (ofW (f xs)) P := by
  cases o with
  | lst xs => exact ⟨xs, rfl, p⟩
  | _ => exact p.elim
theorem oIt {o : O} {f : List W → R W} (p : Post cl ρ H E (ofW (o.items f)) P) : ∃ xs, (o = .lst xs ∨ o = .tup xs) ∧ Post cl ρ H E (ofW (f xs)) P := by
  cases o with
  | lst xs => exact ⟨xs, .inl rfl, p⟩
  | tup xs => exact ⟨xs, .inr rfl, p⟩
  | _ => exact p.elim
theorem oSize {xs : List W} {k : R W} (p : Post cl ρ H E (ofW (size xs k)) P) : xs.length ≤ 16777215 ∧ Post cl ρ H E (ofW k) P := by
  obtain ⟨e, p⟩ := oIf p
  rw [ble_eq, len_eq] at e
  exact ⟨of_decide_eq_true e, p⟩
theorem line_eq : sizeLine = 16777216 := sizeLine_eq
theorem OA.sq {K : PySem.W.Frag} {a : Addr} {o : O} {xs : List W} (e : o = .lst xs ∨ o = .tup xs) (x : OA cl ρ H a o) : ∃ vs, RWs ρ xs vs ∧ (SqL K H a vs ∨ SqT K H a vs) := by
  rcases e with rfl | rfl
  · obtain ⟨vs, r, q⟩ := x; exact ⟨vs, r, .inl (SqL.of q)⟩
  · obtain ⟨vs, r, q⟩ := x; exact ⟨vs, r, .inr (SqT.of q)⟩
theorem Post.yes {b c : Bool} {Q : VK} (s : Sim cl ρ h H) (p : Post cl ρ H E (ofW (.yes b h)) (VP Q)) (e : b = c) : Q (.bl c) H := by subst e; exact Post.nowV s p (.bl b)
end
section
variable {cl : Cn}
theorem o_sub : Op2 cl .sub (rI0 fun i j => .int (i - j)) := fun E ρ h H w1 w2 v1 v2 Q s r1 r2 p => by
  obtain ⟨i, rfl, p⟩ := oI (show Post cl ρ H E (ofW (w1.onI fun i => w2.onI fun j => pSub h i j)) (VP Q) from p)
  obtain ⟨j, rfl, p⟩ := oI p
  cases r1; cases r2
  exact ⟨i, j, rfl, rfl, Post.nowV s p (.int _)⟩
theorem sml_of {i : Int} (h : Sml i = true) : L2.Sml i := by
  unfold L2.Sml
  cases i with
  | ofNat a =>
    have : Nat.ble (a + 1) (2 ^ 4000) = true := h
    rw [ble_eq] at this
    have := of_decide_eq_true this
    show a < 2 ^ 4000
    omega
  | negSucc a =>
    have : Nat.ble (a + 2) (2 ^ 4000) = true := h
    rw [ble_eq] at this
    have := of_decide_eq_true this
    show a + 1 < 2 ^ 4000
    omega
theorem o_mod : Op2 cl .mod (rI (fun _ j => 0 < j) fun i j => .int (i % j)) := fun E ρ h H w1 w2 v1 v2 Q s r1 r2 p => by
  obtain ⟨i, rfl, p⟩ := oI (show Post cl ρ H E (ofW (w1.onI fun i => w2.onI fun j => pMod h i j)) (VP Q) from p)
  obtain ⟨j, rfl, p⟩ := oI p
  obtain ⟨c, p⟩ := oIf p
  rw [ilt_eq] at c
  cases r1; cases r2
  exact ⟨i, j, rfl, rfl, of_decide_eq_true c, Post.nowV s p (.int _)⟩
theorem o_fdiv : Op2 cl .fdiv (rI (fun _ j => CDivX j) fun i j => .int (i.fdiv j)) := fun E ρ h H w1 w2 v1 v2 Q s r1 r2 p => by
  obtain ⟨i, rfl, p⟩ := oI (show Post cl ρ H E (ofW (w1.onI fun i => w2.onI fun j => pFdiv h i j)) (VP Q) from p)
  obtain ⟨j, rfl, p⟩ := oI p
  obtain ⟨c, p⟩ := oIf p
  obtain ⟨c2, p⟩ := oIf p
  rw [ilt_eq] at c
  have c := of_decide_eq_true c
  cases r1; cases r2
  exact ⟨i, j, rfl, rfl, ⟨by omega, sml_of c2⟩, Post.nowV s p (.int _)⟩
theorem o_pow : Op2 cl .pow (rI CPow fun i j => .int (i ^ j.toNat)) := fun E ρ h H w1 w2 v1 v2 Q s r1 r2 p => by
  obtain ⟨i, rfl, p⟩ := oI (show Post cl ρ H E (ofW (w1.onI fun i => w2.onI fun j => pPow h i j)) (VP Q) from p)
  obtain ⟨j, rfl, p⟩ := oI p
  obtain ⟨c, p⟩ := oIf p
  obtain ⟨c2, p⟩ := oIf p
  obtain ⟨c3, p⟩ := oIf p
  obtain ⟨c4, p⟩ := oIf p
  rw [ilt_eq] at c c2 c3 c4
  have c := of_decide_eq_true c
  have c2 := of_decide_eq_true c2
  have c3 := of_decide_eq_true c3
  have c4 := of_decide_eq_true c4
  cases r1; cases r2
  exact ⟨i, j, rfl, rfl, ⟨by omega, by omega, by omega⟩, Post.nowV s p (.int _)⟩
theorem o_neg : Op1 cl .neg (rU fun i => .int (-i)) := fun E ρ h H w1 v1 Q s r1 p => by
  obtain ⟨i, rfl, p⟩ := oI (show Post cl ρ H E (ofW (w1.onI fun i => .ok (.int (-i)) h)) (VP Q) from p)
  cases r1
  exact ⟨i, rfl, Post.nowV s p (.int _)⟩
theorem o_cmp {p : Pr} {f g : Int → Int → Bool} (hp : ∀ h w1 w2, papp p [w1, w2] h = w1.onI fun i => w2.onI fun j => .yes (f i j) h) (e : ∀ i j, f i j = g i j) : Op2 cl p (rI0 fun i j => .bl (g i j)) := fun E ρ h H w1 w2 v1 v2 Q s r1 r2 p => by
  rw [hp] at p
  obtain ⟨i, rfl, p1⟩ := oI p
  obtain ⟨j, rfl, p2⟩ := oI p1
  cases r1; cases r2
  exact ⟨i, j, rfl, rfl, Post.yes s p2 (e i j)⟩
theorem oT {E : XK} {ρ : List Addr} {H : Hp} {P : A → Hs → List Addr → Hp → Prop} {o : O} {f : List W → R W} (p : Post cl ρ H E (ofW (o.onT f)) P) : ∃ xs, o = .tup xs ∧ Post cl ρ H E (ofW (f xs)) P := by
  cases o with
  | tup xs => exact ⟨xs, rfl, p⟩
  | _ => exact p.elim
theorem ints_of {ρ : List Addr} : ∀ {xs : List W} {vs : List V}, RWs ρ xs vs → intsQ xs = true → ∃ ns : List Int, xs = ns.map W.int ∧ vs = ns.map V.int
  | _, _, .nil, _ => ⟨[], rfl, rfl⟩
  | x :: xs, v :: vs, .cons r t, e => by
    cases r with
    | int i =>
      obtain ⟨ns, e1, e2⟩ := ints_of t (show intsQ xs = true from e)
      exact ⟨i :: ns, by rw [e1]; rfl, by rw [e2]; rfl⟩
    | _ => cases e
theorem lexI_eq : ∀ (ns ms : List Int), lexI (ns.map W.int) (ms.map W.int) = some (HT.lexLt ns ms)
  | [], [] => rfl
  | [], _ :: _ => rfl
  | _ :: _, [] => rfl
  | i :: ns, j :: ms => by
    show ifB (ieq i j) (lexI (ns.map W.int) (ms.map W.int)) (some (ilt i j)) = _
    rw [ieq_eq, lexI_eq ns ms, ilt_eq]
    by_cases z : i = j
    · rw [decide_eq_true z]
      simp [ifB, HT.lexLt, z]
    · rw [decide_eq_false z]
      simp [ifB, HT.lexLt, z]
def rLtAny (K : PySem.W.Frag) : R2 := fun x y H Q => rI0 (fun i j => .bl (decide (i < j))) x y H Q ∨ rLtT K x y H Q
theorem o_lt {K : PySem.W.Frag} : Op2 cl .lt (rLtAny K) := fun E ρ h H w1 w2 v1 v2 Q s r1 r2 p => by
  have p : Post cl ρ H E (ofW (pLt h w1 w2)) (VP Q) := p
  cases w1 with
  | int i =>
    obtain ⟨j, rfl, p1⟩ := oI (show Post cl ρ H E (ofW (w2.onI fun j => .yes (ilt i j) h)) (VP Q) from p)
    cases r1; cases r2
    exact .inl ⟨i, j, rfl, rfl, Post.yes s p1 (ilt_eq i j)⟩
  | ref n =>
    obtain ⟨n, o, a, _, rfl, e1, g1, x1, p1⟩ := oAt s r1 (show Post cl ρ H E (ofW (h.at (.ref n) fun _ x => h.at w2 fun _ y => x.onT fun xs => y.onT fun ys => ifB (intsQ xs) (ifB (intsQ ys) (Opt (lexI xs ys) fun c => .yes c h) .no) .no)) (VP Q) from p)
    obtain ⟨m, o2, b, _, rfl, e2, g2, x2, p2⟩ := oAt s r2 p1
    obtain ⟨xs, rfl, p3⟩ := oT p2
    obtain ⟨ys, rfl, p4⟩ := oT p3
    obtain ⟨c1, p5⟩ := oIf p4
    obtain ⟨c2, p6⟩ := oIf p5
    obtain ⟨c, ec, p7⟩ := oOpt p6
    obtain ⟨vs, rv, q1⟩ := x1
    obtain ⟨us, ru, q2⟩ := x2
    obtain ⟨ns, rfl, rfl⟩ := ints_of rv c1
    obtain ⟨ms, rfl, rfl⟩ := ints_of ru c2
    rw [lexI_eq] at ec
    exact .inr ⟨a, b, ns, ms, rfl, rfl, SqT.of q1, SqT.of q2, Post.yes s p7 (Option.some.inj ec).symm⟩
  | _ => exact p.elim
theorem not_lt (i j : Int) : (!ilt j i) = decide (i ≤ j) := by
  rw [ilt_eq, ← decide_not]
  exact decide_eq_decide.mpr (by omega)
theorem o_ge : Op2 cl .ge (rI0 fun i j => .bl (decide (j ≤ i))) := o_cmp (f := fun i j => !ilt i j) (fun _ _ _ => rfl) fun i j => not_lt j i
theorem isNon_eq {ρ : List Addr} {w : W} {v : V} (r : RW ρ w v) : isNon w = decide (v = .non) := by
  cases r <;> first | rfl | exact (decide_eq_false (by intro z; cases z)).symm
theorem o_notb : Op1 cl .notb (fun x H Q => ∃ c, x = .bl c ∧ Q (.bl (!c)) H) := fun E ρ h H w1 v1 Q s r1 p => by
  obtain ⟨b, rfl, p⟩ := oB (show Post cl ρ H E (ofW (w1.onB (.yes true h) (.yes false h))) (VP Q) from p)
  cases r1
  refine ⟨b, rfl, ?_⟩
  cases b with
  | true => exact Post.yes s p rfl
  | false => exact Post.yes s p rfl
def rAddAny : R2 := fun x y H Q => rI0 (fun i j => .int (i + j)) x y H Q ∨ rCat x y H Q
theorem OpR.or {X : Cx} {f : Value → Value → Sem Value} {r r' : R2} (h : OpR X f r) (h' : OpR X f r') : OpR X f (fun x y H Q => r x y H Q ∨ r' x y H Q) := by
  intro pins s σ H x y v u Q I rx ry q
  rcases q with q | q
  · exact h pins s σ H x y v u Q I rx ry q
  · exact h' pins s σ H x y v u Q I rx ry q
theorem o_add : Op2 cl .add rAddAny := fun E ρ h H w1 w2 v1 v2 Q s r1 r2 p => by
  have p : Post cl ρ H E (ofW (pAdd h w1 w2)) (VP Q) := p
  cases w1 with
  | int i =>
    obtain ⟨j, rfl, p⟩ := oI (show Post cl ρ H E (ofW (w2.onI fun j => .ok (.int (i + j)) h)) (VP Q) from p)
    cases r1; cases r2
    exact .inl ⟨i, j, rfl, rfl, Post.nowV s p (.int _)⟩
  | ref n =>
    obtain ⟨n, o, a, _, rfl, e1, g1, x1, p⟩ := oAt s r1 (show Post cl ρ H E (ofW (pCat h (.ref n) w2)) (VP Q) from p)
    obtain ⟨m, o2, b, _, rfl, e2, g2, x2, p⟩ := oAt s r2 p
    cases o with
    | lst xs =>
      obtain ⟨ys, rfl, p⟩ := oL p
      obtain ⟨z, p⟩ := oSize p
      obtain ⟨vs, rv, q1⟩ := x1
      obtain ⟨us, ru, q2⟩ := x2
      rw [app_eq] at z p
      have l1 := rv.length
      have l2 := ru.length
      rw [List.length_append] at z
      exact .inr ⟨a, b, vs, us, rfl, rfl, q1, q2, by rw [line_eq]; omega, fun p' hp => Post.newL s p hp (rv.append ru)⟩
    | _ => exact p.elim
  | _ => exact p.elim
def rMulAny : R2 := fun x y H Q => rI CMulX (fun i j => .int (i * j)) x y H Q ∨ rRep x y H Q
theorem repL_eq (xs : List W) (k : Nat) : repL xs k = (List.replicate k xs).flatten := by
  induction k with
  | zero => rfl
  | succ k ih =>
    show app xs (repL xs k) = _
    rw [app_eq, ih, List.replicate_succ, List.flatten_cons]
theorem RWs.rep {ρ : List Addr} {xs : List W} {vs : List V} (r : RWs ρ xs vs) : ∀ k : Nat, RWs ρ (List.replicate k xs).flatten (List.replicate k vs).flatten
  | 0 => .nil
  | k + 1 => by rw [List.replicate_succ, List.replicate_succ, List.flatten_cons, List.flatten_cons]; exact r.append (RWs.rep r k)
theorem o_mul : Op2 cl .mul rMulAny := fun E ρ h H w1 w2 v1 v2 Q s r1 r2 p => by
  obtain ⟨j, rfl, p⟩ := oI (show Post cl ρ H E (ofW (pMul h w1 w2)) (VP Q) from p)
  cases r2
  cases w1 with
  | int i =>
    obtain ⟨c, p⟩ := oIf (show Post cl ρ H E (ofW (ifB (Sml i) (ifB (Sml j) (.ok (.int (i * j)) h) .no) .no)) (VP Q) from p)
    obtain ⟨c2, p⟩ := oIf p
    cases r1
    exact .inl ⟨i, j, rfl, rfl, .inr ⟨sml_of c, sml_of c2⟩, Post.nowV s p (.int _)⟩
  | ref n =>
    obtain ⟨n, o, a, _, rfl, e1, g1, x1, p⟩ := oAt s r1 (show Post cl ρ H E (ofW (pRep h (.ref n) j)) (VP Q) from p)
    obtain ⟨xs, rfl, p⟩ := oL p
    obtain ⟨c, p⟩ := oIf p
    obtain ⟨c2, p⟩ := oIf p
    obtain ⟨c3, p⟩ := oIf p
    rw [ilt_eq] at c c2
    rw [ble_eq, len_eq] at c3
    have c := of_decide_eq_true c
    have c2 := of_decide_eq_true c2
    have c3 := of_decide_eq_true c3
    obtain ⟨vs, rv, q1⟩ := x1
    have l := rv.length
    rw [repL_eq] at p
    refine .inr ⟨a, j, vs, rfl, rfl, q1, by omega, by omega, ?_, fun p' hp => Post.newL s p hp (rv.rep _)⟩
    have : vs.length * j.toNat ≤ 100 * 100000 := Nat.mul_le_mul (by omega) (by omega)
    rw [line_eq]; omega
  | _ => exact p.elim
theorem ixN_of {n : Nat} {i : Int} {j : Nat} (h : ixOf n i = j) (hj : j < n) : ixN n i = some j := by
  unfold ixN
  cases i with
  | ofNat k =>
    have h : k = j := h
    rw [if_pos (by show (0 : Int) ≤ (k : Int); omega), if_pos (by show (k : Int) < n; omega)]
    exact congrArg some h
  | negSucc k =>
    have h : ifB (Nat.ble (k + 1) n) (n - (k + 1)) n = j := h
    rw [ble_eq] at h
    by_cases c : k + 1 ≤ n
    · rw [decide_eq_true c] at h
      have h : n - (k + 1) = j := h
      rw [if_neg (by omega), if_pos (by omega)]
      exact congrArg some (by omega)
    · rw [decide_eq_false c] at h
      have h : n = j := h
      omega
theorem atI_of {vs : List V} {xs : List W} {ρ : List Addr} {i : Int} {w : W} (r : RWs ρ xs vs) (e : nth xs (ixOf (len xs) i) = some w) : ∃ v, atI vs i = some v ∧ RW ρ w v := by
  rw [nth_eq, len_eq] at e
  obtain ⟨v, ev, rv⟩ := r.get e
  refine ⟨v, ?_, rv⟩
  unfold atI
  have hl := r.length
  have hlt := (List.getElem?_eq_some_iff.mp ev).1
  rw [hl] at ev hlt
  rw [ixN_of rfl hlt]
  exact ev
theorem o_ix {K : PySem.W.Frag} : Op2 cl .ix (rIx K) := fun E ρ h H w1 w2 v1 v2 Q s r1 r2 p => by
  obtain ⟨n, o, a, rfl, rfl, e1, g1, x1, p⟩ := oAt s r1 (show Post cl ρ H E (ofW (pIx h w1 w2)) (VP Q) from p)
  obtain ⟨xs, e, p1⟩ := oIt p
  obtain ⟨i, rfl, p2⟩ := oI p1
  obtain ⟨w, ew, p3⟩ := oOpt p2
  cases r2
  rcases e with rfl | rfl
  · obtain ⟨vs, rv, q⟩ := x1
    obtain ⟨v, ev, rw⟩ := atI_of rv ew
    exact .inl ⟨a, vs, i, v, rfl, rfl, SqL.of q, ev, Post.nowV s p3 rw⟩
  · obtain ⟨vs, rv, q⟩ := x1
    obtain ⟨v, ev, rw⟩ := atI_of rv ew
    exact .inr (.inl ⟨a, vs, i, v, rfl, rfl, SqT.of q, ev, Post.nowV s p3 rw⟩)
theorem one_w {ρ : List Addr} {ws : List W} {vs : List V} {f : W → R W} {P : A → Hs → List Addr → Hp → Prop} {H : Hp} {E : XK} (r : RWs ρ ws vs) (p : Post cl ρ H E (ofW (oneW ws f)) P) : ∃ w v, ws = [w] ∧ vs = [v] ∧ RW ρ w v ∧ Post cl ρ H E (ofW (f w)) P := by
  cases r with
  | nil => exact p.elim
  | cons r1 t => cases t with
    | nil => exact ⟨_, _, rfl, rfl, r1, p⟩
    | cons _ _ => exact p.elim
theorem two_w {ρ : List Addr} {ws : List W} {vs : List V} {f : W → W → R W} {P : A → Hs → List Addr → Hp → Prop} {H : Hp} {E : XK} (r : RWs ρ ws vs) (p : Post cl ρ H E (ofW (twoW ws f)) P) : ∃ w v w' v', ws = [w, w'] ∧ vs = [v, v'] ∧ RW ρ w v ∧ RW ρ w' v' ∧ Post cl ρ H E (ofW (f w w')) P := by
  cases r with
  | nil => exact p.elim
  | cons r1 t => cases t with
    | nil => exact p.elim
    | cons r2 t => cases t with
      | nil => exact ⟨_, _, _, _, rfl, rfl, r1, r2, p⟩
      | cons _ _ => exact p.elim
theorem o_len {K : PySem.W.Frag} : OpN cl .len (rLen K) := fun E ρ h H ws vs Q s r p => by
  obtain ⟨w, v, rfl, rfl, r1, p⟩ := one_w r (show Post cl ρ H E (ofW (oneW ws (pLen h))) (VP Q) from p)
  obtain ⟨n, o, a, rfl, rfl, e1, g1, x1, p⟩ := oAt s r1 p
  obtain ⟨xs, e, p⟩ := oIt p
  obtain ⟨us, ru, q⟩ := x1.sq (K := K) e
  refine ⟨a, us, rfl, q, ?_⟩
  rw [len_eq, ru.length] at p
  exact Post.nowV s p (.int _)
theorem o_tup : OpN cl .tup (fun xs H Q => xs.length ≤ sizeLine ∧ ∀ p, H p = none → Q (.ref p) (upd H p (.tup xs))) := fun E ρ h H ws vs Q s r p => by
  obtain ⟨z, p⟩ := oSize (show Post cl ρ H E (ofW (size ws (.alloc h (.tup ws)))) (VP Q) from p)
  have := r.length
  exact ⟨by rw [line_eq]; omega, fun p' hp => Post.newT s p hp r⟩
theorem o_lst : OpN cl .lst (fun xs H Q => xs.length ≤ sizeLine ∧ ∀ p, H p = none → Q (.ref p) (upd H p (.lst xs))) := fun E ρ h H ws vs Q s r p => by
  obtain ⟨z, p⟩ := oSize (show Post cl ρ H E (ofW (size ws (.alloc h (.lst ws)))) (VP Q) from p)
  have := r.length
  exact ⟨by rw [line_eq]; omega, fun p' hp => Post.newL s p hp r⟩
end
end Ev

set_option maxRecDepth 100000
set_option maxHeartbeats 4000000
namespace Ev
open PySem PySem.Spec PySem.SeqAt PyProof.Rows L2
section
variable {cl : Cn}
def OpM (cl : Cn) (p : Pr) (r : V → List V → Hp → VK → Prop) : Prop := ∀ (E : XK) (ρ : List Addr) (h : Hs) (H : Hp) (w : W) (v : V) (ws : List W) (vs : List V) (Q : VK), Sim cl ρ h H → RW ρ w v → RWs ρ ws vs → Post cl ρ H E (ofW (papp p (w :: ws) h)) (VP Q) → r v vs H Q
theorem o_append : OpM cl .append rAppend := fun E ρ h H w v ws vs Q s r rs p => by
  obtain ⟨w1, v1, w2, v2, e, e', r1, r2, p1⟩ := two_w (.cons r rs) (show Post cl ρ H E (ofW (twoW (w :: ws) (pAppend h))) (VP Q) from p)
  cases e; cases e'
  obtain ⟨n, o, a, rfl, rfl, e1, g1, x1, p2⟩ := oAt s r1 p1
  obtain ⟨xs, rfl, p3⟩ := oL p2
  obtain ⟨z, p4⟩ := oSize p3
  obtain ⟨us, ru, q⟩ := x1
  have hl := ru.length
  rw [app_eq] at p4
  exact ⟨a, us, v2, rfl, rfl, q, by rw [line_eq]; omega, Post.putL s p4 e1 (ru.append (.cons r2 .nil)) .non⟩
theorem RWs.reverse {ρ : List Addr} : ∀ {xs : List W} {us : List V}, RWs ρ xs us → RWs ρ xs.reverse us.reverse
  | _, _, .nil => .nil
  | _, _, .cons r t => by rw [List.reverse_cons, List.reverse_cons]; exact (RWs.reverse t).append (.cons r .nil)
theorem o_truth {K : PySem.W.Frag} {E : XK} {ρ : List Addr} {h : Hs} {H : Hp} {w : W} {v : V} {Q : VK} (s : Sim cl ρ h H) (r : RW ρ w v) (p : Post cl ρ H E (ofW (papp .truth [w] h)) (VP Q)) : ∃ k, TruV K v H k ∧ Q (.bl k) H := by
  have p : Post cl ρ H E (ofW (pTruth h w)) (VP Q) := p
  cases r with
  | non => exact ⟨false, rfl, Post.yes s p rfl⟩
  | bl b => exact ⟨b, rfl, Post.yes s p rfl⟩
  | int i =>
    refine ⟨i != 0, rfl, Post.yes s p ?_⟩
    rw [ieq_eq]
    by_cases z : i = 0
    · subst z; rfl
    · rw [decide_eq_false z]; exact (bne_iff_ne.mpr z).symm
  | str c => exact p.elim
  | @ref n a q =>
    obtain ⟨n, o, a', e0, e0', e1, g1, x1, p1⟩ := oAt s (.ref q) (show Post cl ρ H E (ofW (h.at (.ref n) fun _ o => o.items fun xs => .yes (nonE xs) h)) (VP Q) from p)
    cases e0; cases e0'
    obtain ⟨xs, e, p2⟩ := oIt p1
    have ne : ∀ {vs : List V}, RWs ρ xs vs → nonE xs = !vs.isEmpty := fun r => by cases r <;> rfl
    rcases e with rfl | rfl
    · obtain ⟨us, ru, q2⟩ := x1
      exact ⟨_, .inl ⟨us, SqL.of q2, rfl⟩, Post.yes s p2 (ne ru)⟩
    · obtain ⟨us, ru, q2⟩ := x1
      exact ⟨_, .inr (.inl ⟨us, SqT.of q2, rfl⟩), Post.yes s p2 (ne ru)⟩
mutual
def pd : D → PyData
  | .non => .none | .bl b => .bool b | .int i => .int i | .str c => .str ⟨c.toArray⟩ | .lst xs => .list (pds xs) | .tup xs => .tuple (pds xs)
def pds : List D → List PyData
  | [] => []
  | x :: xs => pd x :: pds xs
end
theorem beq_i (i j : Int) : (i == j) = ieq i j := by
  rw [ieq_eq]
  by_cases z : i = j
  · subst z; simp
  · rw [decide_eq_false z]; exact beq_eq_false_iff_ne.mpr z
theorem beq_s (x y : List Nat) : (({ cps := x.toArray } : Str) == { cps := y.toArray }) = codes x y := by
  cases z : codes x y with
  | true => rw [codes_t.mp z]; exact beq_self_eq_true _
  | false => exact beq_eq_false_iff_ne.mpr fun q => by rw [codes_t.mpr (nm_inj q)] at z; cases z
mutual
theorem eqv_pd : ∀ a b : D, PyData.eqv (pd a) (pd b) = eqDD a b
  | .non, b => by cases b <;> simp only [pd, PyData.eqv, eqDD]
  | .bl x, b => by cases b <;> simp only [pd, PyData.eqv, eqDD, beq_i]
  | .int x, b => by cases b <;> simp only [pd, PyData.eqv, eqDD, beq_i]
  | .str x, b => by cases b <;> simp only [pd, PyData.eqv, eqDD, beq_s]
  | .lst xs, b => by
    cases b <;> simp only [pd, PyData.eqv, eqDD]
    exact eqv_pds xs _
  | .tup xs, b => by
    cases b <;> simp only [pd, PyData.eqv, eqDD]
    exact eqv_pds xs _
theorem eqv_pds : ∀ a b : List D, PyData.eqvAll (pds a) (pds b) = eqDs a b
  | [], b => by cases b <;> simp only [pds, PyData.eqvAll, eqDs]
  | x :: xs, b => by
    cases b with
    | nil => simp only [pds, PyData.eqvAll, eqDs]
    | cons y ys => simp only [pds, PyData.eqvAll, eqDs, eqv_pd x y, eqv_pds xs ys]
end
theorem okC_eq : ∀ c : List Nat, okC c = true → PySem.PyData.canLay0 (.str ⟨c.toArray⟩) = true := fun c h => by
  have : ∀ x ∈ c, x < 1114112 := by
    induction c with
    | nil => intro x hx; cases hx
    | cons y c ih =>
      have h : ifB (Nat.ble (y + 1) 1114112) (okC c) false = true := h
      rw [ble_eq] at h
      by_cases z : y + 1 ≤ 1114112
      · rw [decide_eq_true z] at h
        intro x hx
        rcases List.mem_cons.mp hx with rfl | hx
        · omega
        · exact ih h x hx
      · rw [decide_eq_false z] at h; cases h
  simp only [PyData.canLay0]
  first | (unfold PyData.strOk; simpa using this) | simpa [PySem.strOk] using this
theorem toD_rep {ρ : List Addr} {h : Hs} {H : Hp} (s : Sim cl ρ h H) : ∀ (n : Nat) {w : W} {v : V} {dd : D}, RW ρ w v → toD h n w = some dd → Rep H v (pd dd) ∧ (pd dd).canLay0 = true ∧ (pd dd).depth ≤ n
  | 0, _, _, _, _, e => nomatch e
  | n + 1, w, v, dd, r, e => by
    have all : ∀ {xs : List W} {vs : List V} {ds : List D}, RWs ρ xs vs → allD (toD h n) xs = some ds → RepAll H vs (pds ds) ∧ PyData.canLayAll0 (pds ds) = true ∧ PyData.depthAll (pds ds) ≤ n := by
      intro xs
      induction xs with
      | nil =>
        intro vs ds r e
        cases r; cases e
        exact ⟨.nil, by simp only [pds, PyData.canLayAll0], by simp only [pds, PyData.depthAll]; omega⟩
      | cons x xs ih =>
        intro vs ds r e
        cases r with
        | cons r1 t =>
          have e : Option.rec none (fun d => Option.rec none (fun ds => some (d :: ds)) (allD (toD h n) xs)) (toD h n x) = some ds := e
          cases h1 : toD h n x with
          | none => rw [h1] at e; cases e
          | some d1 =>
            rw [h1] at e
            cases h2 : allD (toD h n) xs with
            | none => rw [h2] at e; cases e
            | some ds2 =>
              rw [h2] at e
              have e : some (d1 :: ds2) = some ds := e
              cases e
              obtain ⟨a1, a2, a3⟩ := toD_rep s n r1 h1
              obtain ⟨b1, b2, b3⟩ := ih t h2
              refine ⟨.cons a1 b1, ?_, ?_⟩
              · simp only [pds, PyData.canLayAll0, a2, b2]; rfl
              · simp only [pds, PyData.depthAll]; omega
    cases r with
    | non => cases e; exact ⟨.non, by simp only [pd, PyData.canLay0], by simp only [pd, PyData.depth]; omega⟩
    | bl b => cases e; exact ⟨.bl b, by simp only [pd, PyData.canLay0], by simp only [pd, PyData.depth]; omega⟩
    | int i => cases e; exact ⟨.int i, by simp only [pd, PyData.canLay0], by simp only [pd, PyData.depth]; omega⟩
    | str c =>
      have e : ifB (okC c) (some (D.str c)) none = some dd := e
      cases z : okC c with
      | false => rw [z] at e; cases e
      | true =>
        rw [z] at e
        cases e
        exact ⟨.str _, okC_eq c z, by simp only [pd, PyData.depth]; omega⟩
    | @ref k a q =>
      cases hg : h.get k with
      | none =>
        have : toD h (n + 1) (.ref k) = none := by
          show Option.rec (motive := fun _ => Option D) none _ (h.get k) = none
          rw [hg]
        rw [this] at e; cases e
      | some o =>
        have x := s.at q hg
        cases o with
        | tup xs =>
          have : toD h (n + 1) (.ref k) = Option.rec none (fun ds => some (D.tup ds)) (allD (toD h n) xs) := by
            show Option.rec (motive := fun _ => Option D) none _ (h.get k) = _
            rw [hg]
            rfl
          rw [this] at e
          cases h2 : allD (toD h n) xs with
          | none => rw [h2] at e; cases e
          | some ds =>
            rw [h2] at e
            have e : some (D.tup ds) = some dd := e
            cases e
            obtain ⟨vs, rv, qq⟩ := x
            obtain ⟨b1, b2, b3⟩ := all rv h2
            exact ⟨.tup qq b1, by simp only [pd, PyData.canLay0]; exact b2, by simp only [pd, PyData.depth]; omega⟩
        | lst xs =>
          have : toD h (n + 1) (.ref k) = Option.rec none (fun ds => some (D.lst ds)) (allD (toD h n) xs) := by
            show Option.rec (motive := fun _ => Option D) none _ (h.get k) = _
            rw [hg]
            rfl
          rw [this] at e
          cases h2 : allD (toD h n) xs with
          | none => rw [h2] at e; cases e
          | some ds =>
            rw [h2] at e
            have e : some (D.lst ds) = some dd := e
            cases e
            obtain ⟨vs, rv, qq⟩ := x
            obtain ⟨b1, b2, b3⟩ := all rv h2
            exact ⟨.lst qq b1, by simp only [pd, PyData.canLay0]; exact b2, by simp only [pd, PyData.depth]; omega⟩
        | _ =>
          have : toD h (n + 1) (.ref k) = none := by
            show Option.rec (motive := fun _ => Option D) none _ (h.get k) = none
            rw [hg]
          rw [this] at e; cases e
theorem shaped_of {d : PyData} (h1 : d.canLay0 = true) (h2 : d.depth ≤ 12) : shaped d = true := by
  unfold shaped
  rw [h1, decide_eq_true (by omega)]; rfl
theorem o_eqG {p : Pr} {f : Bool → Bool} (hp : ∀ h w1 w2, papp p [w1, w2] h = pEq f h w1 w2) : Op2 cl p (fun x y H Q => ∃ dx dy, Rep H x dx ∧ Rep H y dy ∧ shaped dx = true ∧ shaped dy = true ∧ Q (.bl (f (PyData.eqv dx dy))) H) := fun E ρ h H w1 w2 v1 v2 Q s r1 r2 p => by
  rw [hp] at p
  obtain ⟨x, ex, p1⟩ := oOpt p
  obtain ⟨y, ey, p2⟩ := oOpt p1
  obtain ⟨a1, a2, a3⟩ := toD_rep s 12 r1 ex
  obtain ⟨b1, b2, b3⟩ := toD_rep s 12 r2 ey
  exact ⟨_, _, a1, b1, shaped_of a2 a3, shaped_of b2 b3, Post.yes s p2 (by rw [eqv_pd])⟩
theorem o_eq : Op2 cl .eq rEqD := o_eqG (f := id) fun _ _ _ => rfl
theorem o_ne : Op2 cl .ne rNeD := o_eqG (f := not) fun _ _ _ => rfl
mutual
theorem same_pd : ∀ a b : D, PySem.Spec.same (pd a) (pd b) = sameD a b
  | .non, b => by cases b <;> simp only [pd, PySem.Spec.same, sameD]
  | .bl x, b => by cases b <;> simp only [pd, PySem.Spec.same, sameD]
  | .int x, b => by cases b <;> simp only [pd, PySem.Spec.same, sameD, beq_i]
  | .str x, b => by cases b <;> simp only [pd, PySem.Spec.same, sameD, beq_s]
  | .lst xs, b => by
    cases b <;> simp only [pd, PySem.Spec.same, sameD]
    exact same_pds xs _
  | .tup xs, b => by
    cases b <;> simp only [pd, PySem.Spec.same, sameD]
    exact same_pds xs _
theorem same_pds : ∀ a b : List D, PySem.Spec.sameAll (pds a) (pds b) = sameDs a b
  | [], b => by cases b <;> simp only [pds, PySem.Spec.sameAll, sameDs]
  | x :: xs, b => by
    cases b with
    | nil => simp only [pds, PySem.Spec.sameAll, sameDs]
    | cons y ys => simp only [pds, PySem.Spec.sameAll, sameDs, same_pd x y, same_pds xs ys]
end
end
end Ev

set_option maxRecDepth 100000
set_option maxHeartbeats 4000000
namespace Ev
open PySem PySem.Spec PySem.SeqAt PyProof.Rows L2
section
variable {Pg : List Fn} {cl : Cn} {E : XK} {d : Nat} {X : Cx} {σ : L2.St} {H : Hp}
theorem de_op {op : Operator} {p : Pr} {r : R2} {a b : Expr} {x y : Ev.X} {pos : Pos} (z : Op2 cl p r) (o : OpR X (binaryOp op) r) (ha : PE X a (tE Pg cl E d x)) (hb : PE X b (tE Pg cl E d y)) : PE X (.BinOp a op b pos) (tE Pg cl E d (.pr p [x, y])) :=
  PE.of (pe_op o ha hb) fun _ _ _ q => two_of z q
theorem de_un {op : UnaryOp} {p : Pr} {r : V → Hp → VK → Prop} {a : Expr} {x : Ev.X} {pos : Pos} (z : Op1 cl p r) (o : UnR X (unaryOp op) r) (ha : PE X a (tE Pg cl E d x)) : PE X (.UnaryOp op a pos) (tE Pg cl E d (.pr p [x])) :=
  PE.of (pe_un o ha) fun _ _ _ q => one_of z q
theorem dt_cmp {op : CmpOp} {p : Pr} {r : R2} {a b : Expr} {x y : Ev.X} {pos : Pos} (z : Op2 cl p r) (o : OpR X (compareOp op) r) (ha : PE X a (tE Pg cl E d x)) (hb : PE X b (tE Pg cl E d y)) (hm : behindInMarks op b = false) : PT X (.Compare a [op] [b] pos) (tT Pg cl E d (.pr p [x, y])) :=
  PT.of (pt_cmpR o ha hb hm) fun _ _ _ q => two_of z q
theorem dt_not {a : Expr} {x : Ev.X} {pos} (ha : PT X a (tT Pg cl E d x)) : PT X (.UnaryOp .Not a pos) (tT Pg cl E d (.pr .notb [x])) := PT.of (pt_not ha) fun σ H Q q => by
  obtain ⟨ρ, τ, h, n, s, r, p⟩ := (show tE Pg cl E d x σ H (fun v H1 => ∃ c, v = .bl c ∧ ∃ b, V.bl (!c) = .bl b ∧ Q b H1) from one_of o_notb q)
  refine ⟨ρ, τ, h, n, s, r, p.mono fun a h ρ H _ _ ⟨w, e, g⟩ => ⟨w, e, fun v rv => ?_⟩⟩
  obtain ⟨c, ec, b, eb, qb⟩ := g v rv
  cases eb
  exact ⟨c, ec, qb⟩
theorem dt_truth {a : Expr} {x : Ev.X} (ha : PE X a (tE Pg cl E d x)) (he : ∀ whole, isTrue a X.env whole = (do let v ← whole; standAt a.pos; holding [v] (truthy v))) : PT X a (tT Pg cl E d (.pr .truth [x])) := PT.of (pt_truth ha he) fun σ H Q q =>
  one_of (r := fun v H1 Q' => ∃ k, TruV X.K v H1 k ∧ Q' (.bl k) H1) (fun E ρ h H w v Q s r p => o_truth s r p) q |> fun z => by
  obtain ⟨ρ, τ, h, n, s, r, p⟩ := z
  refine ⟨ρ, τ, h, n, s, r, p.mono fun a h ρ H _ _ ⟨w, e, g⟩ => ⟨w, e, fun v rv => ?_⟩⟩
  obtain ⟨k, t, b, eb, qb⟩ := g v rv
  cases eb
  exact ⟨k, t, qb⟩
theorem and_of {a b : Ev.X} {Q : VK} (x : tE Pg cl E d (.and a b) σ H Q) : tAndV (tE Pg cl E d a) (tE Pg cl E d b) σ H Q := by
  obtain ⟨ρ, τ, h, n, s, rs, q⟩ := x.step
  refine ev.then s rs (show Post cl ρ H E ((evs Pg n d (.x a) τ h).bind fun r h => r.toW fun w => w.onB (.ok (.w (.bl false)) h) (evs Pg n d (.x b) τ h)) (VP Q) from q) fun a1 h1 ρ1 H1 b1 s1 p1 => ?_
  obtain ⟨w, rfl, p2⟩ := toW_of p1
  refine ⟨w, rfl, fun v rv => ?_⟩
  rcases onB_of p2 with ⟨rfl, p3⟩ | ⟨rfl, p3⟩
  · cases rv
    exact ⟨true, rfl, iteT ⟨ρ1, τ, h1, n, s1, rs.mono b1.1, p3⟩⟩
  · cases rv
    exact ⟨false, rfl, iteF (Post.nowV s1 p3 (.bl false))⟩
theorem or_of {a b : Ev.X} {Q : VK} (x : tE Pg cl E d (.or a b) σ H Q) : tOrV (tE Pg cl E d a) (tE Pg cl E d b) σ H Q := by
  obtain ⟨ρ, τ, h, n, s, rs, q⟩ := x.step
  refine ev.then s rs (show Post cl ρ H E ((evs Pg n d (.x a) τ h).bind fun r h => r.toW fun w => w.onB (evs Pg n d (.x b) τ h) (.ok (.w (.bl true)) h)) (VP Q) from q) fun a1 h1 ρ1 H1 b1 s1 p1 => ?_
  obtain ⟨w, rfl, p2⟩ := toW_of p1
  refine ⟨w, rfl, fun v rv => ?_⟩
  rcases onB_of p2 with ⟨rfl, p3⟩ | ⟨rfl, p3⟩
  · cases rv
    exact ⟨true, rfl, iteT (Post.nowV s1 p3 (.bl true))⟩
  · cases rv
    exact ⟨false, rfl, iteF ⟨ρ1, τ, h1, n, s1, rs.mono b1.1, p3⟩⟩
theorem tand_of {a b : Ev.X} {Q : Bool → Hp → Prop} (x : tT Pg cl E d (.and a b) σ H Q) : tAnd (tT Pg cl E d a) (tT Pg cl E d b) σ H Q := by
  obtain ⟨ρ, τ, h, n, s, r, p⟩ := (show tE Pg cl E d a σ H (fun v H1 => ∃ c, v = .bl c ∧ if c = true then tT Pg cl E d b σ H1 Q else ∃ b, V.bl false = .bl b ∧ Q b H1) from and_of x)
  refine ⟨ρ, τ, h, n, s, r, p.mono fun a h ρ H _ _ ⟨w, e, g⟩ => ⟨w, e, fun v rv => ?_⟩⟩
  obtain ⟨c, ec, q⟩ := g v rv
  refine ⟨c, ec, ?_⟩
  cases c with
  | true => exact q
  | false =>
    obtain ⟨b, eb, q⟩ := (show ∃ b, V.bl false = .bl b ∧ Q b H from q)
    cases eb; exact q
theorem tor_of {a b : Ev.X} {Q : Bool → Hp → Prop} (x : tT Pg cl E d (.or a b) σ H Q) : tOr (tT Pg cl E d a) (tT Pg cl E d b) σ H Q := by
  obtain ⟨ρ, τ, h, n, s, r, p⟩ := (show tE Pg cl E d a σ H (fun v H1 => ∃ c, v = .bl c ∧ if c = true then ∃ b, V.bl true = .bl b ∧ Q b H1 else tT Pg cl E d b σ H1 Q) from or_of x)
  refine ⟨ρ, τ, h, n, s, r, p.mono fun a h ρ H _ _ ⟨w, e, g⟩ => ⟨w, e, fun v rv => ?_⟩⟩
  obtain ⟨c, ec, q⟩ := g v rv
  refine ⟨c, ec, ?_⟩
  cases c with
  | false => exact q
  | true =>
    obtain ⟨b, eb, q⟩ := (show ∃ b, V.bl true = .bl b ∧ Q b H from q)
    cases eb; exact q
theorem dw_and {a b : Expr} {rest : List Expr} {x y : Ev.X} {pos : Pos} (ha : PT X a (tT Pg cl E d x)) (hb : PW X (.BoolOp .And (b :: rest) pos) (tT Pg cl E d y)) : PW X (.BoolOp .And (a :: b :: rest) pos) (tT Pg cl E d (.and x y)) := PW.of (pw_and ha hb) fun _ _ _ q => tand_of q
theorem dw_or {a b : Expr} {rest : List Expr} {x y : Ev.X} {pos : Pos} (ha : PT X a (tT Pg cl E d x)) (hb : PW X (.BoolOp .Or (b :: rest) pos) (tT Pg cl E d y)) : PW X (.BoolOp .Or (a :: b :: rest) pos) (tT Pg cl E d (.or x y)) := PW.of (pw_or ha hb) fun _ _ _ q => tor_of q
theorem ite_of {c a b : Ev.X} {Q : VK} (x : tE Pg cl E d (.ite c a b) σ H Q) : tIf (tT Pg cl E d c) (tE Pg cl E d a) (tE Pg cl E d b) σ H Q := by
  obtain ⟨ρ, τ, h, n, s, rs, q⟩ := x.step
  refine ev.then s rs (show Post cl ρ H E ((evs Pg n d (.x c) τ h).bind fun r h => r.toW fun w => w.onB (evs Pg n d (.x b) τ h) (evs Pg n d (.x a) τ h)) (VP Q) from q) fun a1 h1 ρ1 H1 b1 s1 p1 => ?_
  obtain ⟨w, rfl, p2⟩ := toW_of p1
  refine ⟨w, rfl, fun v rv => ?_⟩
  rcases onB_of p2 with ⟨rfl, p3⟩ | ⟨rfl, p3⟩
  · cases rv
    exact ⟨true, rfl, iteT ⟨ρ1, τ, h1, n, s1, rs.mono b1.1, p3⟩⟩
  · cases rv
    exact ⟨false, rfl, iteF ⟨ρ1, τ, h1, n, s1, rs.mono b1.1, p3⟩⟩
theorem de_ix {a b : Expr} {x y : Ev.X} {pos : Pos} (ha : PE X a (tE Pg cl E d x)) (hb : PE X b (tE Pg cl E d y)) (hs : PlainIx b := by exact fun _ _ => rfl) : PE X (.Subscript a b pos) (tE Pg cl E d (.pr .ix [x, y])) :=
  PE.of (pe_ix ix_seq ha hb hs) fun _ _ _ q => two_of o_ix q
theorem de_tup {es : List Expr} {xs : List Ev.X} {x1 pos} (h : PA X es (tA Pg cl E d xs)) : PE X (.Tuple es x1 pos) (tE Pg cl E d (.pr .tup xs)) := PE.of (pe_tup h) fun _ _ _ q => n_of o_tup q
theorem de_lst {es : List Expr} {xs : List Ev.X} {pos} (h : PA X es (tA Pg cl E d xs)) : PE X (.List es pos) (tE Pg cl E d (.pr .lst xs)) := PE.of (pe_lst h) fun _ _ _ q => n_of o_lst q
theorem meth_of {K : PySem.W.Frag} {p : Pr} {r : V → List V → Hp → VK → Prop} (o : OpM cl p r) {a : Ev.X} {as : List Ev.X} {Q : VK} (x : tE Pg cl E d (.lm p a as) σ H Q) : tBM K "list" r (tE Pg cl E d a) (tA Pg cl E d as) σ H Q := by
  obtain ⟨ρ, τ, h, n, s, rs, q⟩ := x.step
  refine ev.then s rs (show Post cl ρ H E ((evs Pg n d (.x a) τ h).bind fun r h => r.toW fun w => h.at w fun _ o => o.onL fun _ => (evs Pg n d (.a as) τ h).bind fun r h => r.toL fun ws => ofW (papp p (w :: ws) h)) (VP Q) from q) fun a1 h1 ρ1 H1 b1 s1 p1 => ?_
  obtain ⟨w1, rfl, p2⟩ := toW_of p1
  refine ⟨w1, rfl, fun v1 rv1 => ?_⟩
  obtain ⟨k, ob, ad, rfl, rfl, e1, g1, x1, p3⟩ := at_of s1 rv1 p2
  obtain ⟨xs, rfl, p4⟩ := onL_of p3
  obtain ⟨vs, ru, qh⟩ := x1
  refine ⟨.inl ⟨rfl, _, SqL.of qh⟩, ?_⟩
  refine ev.then s1 (rs.mono b1.1) p4 fun a2 h2 ρ2 H2 b2 s2 p5 => ?_
  obtain ⟨ws, rfl, p6⟩ := toL_of p5
  exact ⟨ws, rfl, fun us ru' => o E ρ2 h2 H2 _ _ ws us Q s2 (rv1.mono b2.1) ru' p6⟩
theorem de_lm {p : Pr} {r : V → List V → Hp → VK → Prop} {o e : Expr} {es : List Expr} {x y : Ev.X} {ys : List Ev.X} {name : Str} {id : String} {apos cpos : Pos} (z : OpM cl p r) (slot : Slot "list" name id) (hty : typeOf (.builtin id) = pure (.type "method_descriptor")) (hm : MtM X id r)
    (ho : PE X o (tE Pg cl E d x)) (ha : PA X (e :: es) (tA Pg cl E d (y :: ys))) (hbase : attributeBase o name X.env (eval o X.env) = eval o X.env := by rfl)
    (hfew : ((backTo cpos (starEach (e :: es) X.env)).all (fun x => !x.1) && (backToKw cpos (keywordEach [] X.env)).all (fun x => x.1.isSome)
      && decide ((e :: es).length + ([] : List Keyword).length + (if ([] : List Keyword).isEmpty then 0 else 1) < 30)) = true := by rfl)
    (hline : (apos.endLine == cpos.line) = true := by rfl) (hs : starEach (e :: es) X.env = (false, eval e X.env) :: starEach es X.env := by rfl) (hplain : (backTo cpos (starEach es X.env)).any (·.1) = false := by rfl) :
    PE X (.Call (.Attribute o name apos) (e :: es) [] cpos) (tE Pg cl E d (.lm p x (y :: ys))) := PE.of (pe_bm PySem.F.plainAttrs_list slot hty hm ho ha hbase hfew hline hs hplain) fun _ _ _ q => meth_of z q
theorem de_callB {p : Pr} {r : List V → Hp → VK → Prop} {x : Str} {e : Expr} {es : List Expr} {y : Ev.X} {ys : List Ev.X} {id : String} {pos q : Pos} (z : OpN cl p r) (hc : CallR X (.builtin id) r) (hg : Gl X x) (hm : X.mg x = none) (hv : bootBuiltins x = some (.builtin id)) (ha : PA X (e :: es) (tA Pg cl E d (y :: ys))) (hn : x ≠ "__name__" := by decide) (hdb : (x == ("__debug__" : Str)) = false := by decide)
    (he : starEach (e :: es) X.env = (false, eval e X.env) :: starEach es X.env := by rfl) (hpl : (backTo pos (starEach es X.env)).any (·.1) = false := by rfl) : PE X (.Call (.Name x q) (e :: es) [] pos) (tE Pg cl E d (.pr p (y :: ys))) :=
  PE.of (pe_callB hc hg hm hv ha hn hdb he hpl) fun _ _ _ q => n_of z q
end
end Ev

set_option maxRecDepth 100000
set_option maxHeartbeats 4000000
namespace Ev
open PySem PySem.Spec PySem.SeqAt PyProof.Rows L2
section
mutual
def vars : Tg → List Nat
  | .nm i => [i]
  | .tup ts => varss ts
def varss : List Tg → List Nat
  | [] => []
  | t :: ts => vars t ++ varss ts
end
def Off (vs : List Nat) (σ σ' : L2.St) : Prop := σ'.length = σ.length ∧ ∀ i, i ∉ vs → σ'[i]? = σ[i]?
theorem Off.refl {vs : List Nat} {σ : L2.St} : Off vs σ σ := ⟨rfl, fun _ _ => rfl⟩
theorem Off.trans {vs us : List Nat} {σ σ' σ'' : L2.St} (a : Off vs σ σ') (b : Off us σ' σ'') : Off (vs ++ us) σ σ'' := ⟨b.1.trans a.1, fun i hi => by
  rw [List.mem_append] at hi
  exact (b.2 i fun z => hi (.inr z)).trans (a.2 i fun z => hi (.inl z))⟩
def tG (cl : Cn) (t : Tg) : TG := fun v σ H Q => ∃ ρ h w τ n τ', Sim cl ρ h H ∧ RW ρ w v ∧ RS ρ τ σ ∧ bindT h n t w τ = some τ' ∧ ∀ σ', RS ρ τ' σ' → Off (vars t) σ σ' → Q σ' H
def tGs (cl : Cn) (ts : List Tg) : TGs := fun vs σ H Q => ∃ ρ h ws τ n τ', Sim cl ρ h H ∧ RWs ρ ws vs ∧ RS ρ τ σ ∧ bindL (bindT h n) ts ws τ = some τ' ∧ ∀ σ', RS ρ τ' σ' → Off (varss ts) σ σ' → Q σ' H
variable {Pg : List Fn} {cl : Cn} {E : XK} {d : Nat} {X : Cx} {σ : L2.St} {H : Hp}
theorem PG.of {e : Expr} {t t' : TG} (h : PG X e t) (f : ∀ v σ H Q, t' v σ H Q → t v σ H Q) : PG X e t' := fun pins s σ H v u Q I r q => h pins s σ H v u Q I r (f v σ H Q q)
theorem PGs.of {e : List Expr} {t t' : TGs} (h : PGs X e t) (f : ∀ v σ H Q, t' v σ H Q → t v σ H Q) : PGs X e t' := fun pins s σ H v u Q I r q => h pins s σ H v u Q I r (f v σ H Q q)
theorem gname_of {i : Nat} {v : V} {Q : L2.St → Hp → Prop} (x : tG cl (.nm i) v σ H Q) : gName i v σ H Q := by
  obtain ⟨ρ, h, w, τ, n, τ', s, r, rs, e, q⟩ := x
  cases n with
  | zero => cases e
  | succ n =>
    have e : some (setAt τ (some w) i) = some τ' := e
    cases e
    refine q _ (rs.set r i) ⟨List.length_set, fun j hj => ?_⟩
    have ne : i ≠ j := fun z => hj (by simp [vars, z])
    rw [List.getElem?_set_ne ne]
theorem dg_name {i : Nat} {x : Str} {pos : Pos} (hN : X.N.Nodup) (hi : X.N[i]? = some x) (hx : Loc X.env.scope x) (hf : X.fn x = true ∨ X.env.scope.names.lookup x = some .local := by first | exact .inl rfl | exact .inr rfl | assumption) : PG X (.Name x pos) (tG cl (.nm i)) := PG.of (pg_name hN hi hx hf) fun _ _ _ _ q => gname_of q
theorem dgs_nil : PGs X [] (tGs cl []) := PGs.of pgs_nil fun vs σ H Q x => by
  obtain ⟨ρ, h, ws, τ, n, τ', s, r, rs, e, q⟩ := x
  cases r with
  | nil =>
    have e : some τ = some τ' := e
    cases e
    exact ⟨rfl, q σ rs Off.refl⟩
  | cons _ _ => cases e
theorem dgs_cons {e : Expr} {es : List Expr} {t : Tg} {ts : List Tg} (h1 : PG X e (tG cl t)) (h2 : PGs X es (tGs cl ts)) (hs : (assignEach (e :: es) X.env).map (·.2) = assign e X.env :: (assignEach es X.env).map (·.2) := by rfl) : PGs X (e :: es) (tGs cl (t :: ts)) :=
  PGs.of (pgs_cons h1 h2 hs) fun vs σ H Q x => by
  obtain ⟨ρ, h, ws, τ, n, τ', s, r, rs, e, q⟩ := x
  cases r with
  | nil => cases e
  | @cons w v ws vs r1 rt =>
    have e : Option.rec none (fun τ => bindL (bindT h n) ts ws τ) (bindT h n t w τ) = some τ' := e
    cases e1 : bindT h n t w τ with
    | none => rw [e1] at e; cases e
    | some τ1 =>
      rw [e1] at e
      refine ⟨v, vs, rfl, ρ, h, w, τ, n, τ1, s, r1, rs, e1, fun σ1 rs1 o1 => ?_⟩
      exact ⟨ρ, h, ws, τ1, n, τ', s, rt, rs1, e, fun σ2 rs2 o2 => q σ2 rs2 (by have := o1.trans o2; simpa [varss] using this)⟩
theorem dg_tup {es : List Expr} {k : Nat} {ts : List Tg} {n : Nat} {pos : Pos} (hc : X.calm = true) (h : PGs X es (tGs cl ts)) (hl : ts.length = n := by rfl)
    (hn : (assignEach es X.env).length = n := by rfl) (hst : (assignEach es X.env).findIdx? (·.1) = none := by rfl) : PG X (.Tuple es k pos) (tG cl (.tup ts)) := PG.of (pg_tup hc h hn hst) fun v σ H Q x => by
  obtain ⟨ρ, h, w, τ, m, τ', s, r, rs, e, q⟩ := x
  cases m with
  | zero => cases e
  | succ m =>
    cases r with
    | @ref j a qa =>
      have e : Option.rec none (fun o => O.rec (fun xs => bindL (bindT h m) ts xs τ) (fun _ => none) (fun _ _ => none) (fun _ => none) (fun _ => none) o) (h.get j) = some τ' := e
      cases hg : h.get j with
      | none => rw [hg] at e; cases e
      | some o =>
        rw [hg] at e
        have x1 := s.at qa hg
        cases o with
        | tup xs =>
          have e : bindL (bindT h m) ts xs τ = some τ' := e
          obtain ⟨vs, rv, qh⟩ := x1
          have len : ∀ (ts : List Tg) (xs : List W) (τ τ' : Sg), bindL (bindT h m) ts xs τ = some τ' → xs.length = ts.length := by
            intro ts
            induction ts with
            | nil => intro xs τ τ' e; cases xs with
              | nil => rfl
              | cons _ _ => cases e
            | cons t ts ih => intro xs τ τ' e; cases xs with
              | nil => cases e
              | cons y ys =>
                have e : Option.rec none (fun τ => bindL (bindT h m) ts ys τ) (bindT h m t y τ) = some τ' := e
                cases e1 : bindT h m t y τ with
                | none => rw [e1] at e; cases e
                | some τ1 => rw [e1] at e; exact congrArg (· + 1) (ih ys τ1 τ' e)
          refine ⟨a, vs, rfl, SqT.of qh, by rw [← rv.length, len ts xs τ τ' e, hl], ?_⟩
          exact ⟨ρ, h, xs, τ, m, τ', s, rv, rs, e, fun σ' rs' o' => q σ' rs' (by simpa [vars] using o')⟩
        | _ => cases e
    | _ => cases e
theorem getAt_set {α : Type} (τ : Sg) (w : W) (i j : Nat) : getAt (setAt τ (some w) i) j = none → getAt τ j = none ∧ (j = i → τ.length ≤ j) := by
  rw [setAt_eq, getAt_eq, getAt_eq]
  intro h
  by_cases z : i = j
  · subst z
    by_cases l : i < τ.length
    · rw [List.getElem?_set_self l] at h; cases h
    · refine ⟨?_, fun _ => Nat.not_lt.mp l⟩
      rw [List.getElem?_eq_none (Nat.not_lt.mp l)]; rfl
  · rw [List.getElem?_set_ne z] at h
    exact ⟨h, fun q => absurd q.symm z⟩
theorem bind_none {h : Hs} : ∀ (n : Nat) {t : Tg} {w : W} {τ τ' : Sg}, bindT h n t w τ = some τ' → τ'.length = τ.length ∧ ∀ i, getAt τ' i = none → getAt τ i = none ∧ (i ∈ vars t → τ.length ≤ i)
  | 0, _, _, _, _, e => nomatch e
  | n + 1, t, w, τ, τ', e => by
    have lst : ∀ (ts : List Tg) (ws : List W) (τ τ' : Sg), bindL (bindT h n) ts ws τ = some τ' → τ'.length = τ.length ∧ ∀ i, getAt τ' i = none → getAt τ i = none ∧ (i ∈ varss ts → τ.length ≤ i) := by
      intro ts
      induction ts with
      | nil =>
        intro ws τ τ' e
        cases ws with
        | nil => cases e; exact ⟨rfl, fun i hi => ⟨hi, fun z => by simp [varss] at z⟩⟩
        | cons _ _ => cases e
      | cons t ts ih =>
        intro ws τ τ' e
        cases ws with
        | nil => cases e
        | cons y ys =>
          have e : Option.rec none (fun τ => bindL (bindT h n) ts ys τ) (bindT h n t y τ) = some τ' := e
          cases e1 : bindT h n t y τ with
          | none => rw [e1] at e; cases e
          | some τ1 =>
            rw [e1] at e
            obtain ⟨l1, a1⟩ := bind_none n e1
            obtain ⟨l2, a2⟩ := ih ys τ1 τ' e
            refine ⟨l2.trans l1, fun i hi => ?_⟩
            obtain ⟨b1, b2⟩ := a2 i hi
            obtain ⟨c1, c2⟩ := a1 i b1
            refine ⟨c1, fun z => ?_⟩
            simp only [varss, List.mem_append] at z
            rcases z with z | z
            · exact c2 z
            · rw [← l1]; exact b2 z
    cases t with
    | nm i =>
      have e : some (setAt τ (some w) i) = some τ' := e
      cases e
      refine ⟨by rw [setAt_eq, List.length_set], fun j hj => ?_⟩
      obtain ⟨a, b⟩ := getAt_set (α := Unit) τ w i j hj
      exact ⟨a, fun z => b (by simpa [vars] using z)⟩
    | tup ts =>
      cases w with
      | ref k =>
        have e : Option.rec none (fun o => O.rec (fun xs => bindL (bindT h n) ts xs τ) (fun _ => none) (fun _ _ => none) (fun _ => none) (fun _ => none) o) (h.get k) = some τ' := e
        cases hg : h.get k with
        | none => rw [hg] at e; cases e
        | some o =>
          rw [hg] at e
          cases o with
          | tup xs =>
            obtain ⟨a, b⟩ := lst ts xs τ τ' e
            exact ⟨a, fun i hi => by simpa [vars] using b i hi⟩
          | _ => cases e
      | _ => cases e
theorem bind_ag {h : Hs} {n : Nat} {t : Tg} {w : W} {τ τ' : Sg} {ρ : List Addr} {σ σ' σ0 : L2.St} (e : bindT h n t w τ = some τ') (rs : RS ρ τ σ) (o : Off (vars t) σ σ') (ag : Ag σ0 τ σ) : Ag σ0 τ' σ' := fun i hi => by
  obtain ⟨l, a⟩ := bind_none n e
  obtain ⟨b1, b2⟩ := a i hi
  have len : τ.length = σ.length := Paired.length rs
  by_cases z : i ∈ vars t
  · have h1 := b2 z
    rw [← ag i b1, List.getElem?_eq_none (by rw [o.1]; omega), List.getElem?_eq_none (by omega)]
  · rw [o.2 i z]; exact ag i b1
section
variable {σ0 : L2.St}
theorem asg_of {t : Tg} {e : Ev.X} {D : Ends} (x : tS Pg cl E d σ0 (.asg t e) D σ H) : tAsg (tE Pg cl E d e) (tG cl t) D σ H := by
  obtain ⟨ρ, τ, h, n, s, rs, ag, q⟩ := x.step
  refine ev.then s rs (show Post cl ρ H E ((evs Pg n d (.x e) τ h).bind fun r h => r.toW fun w => Opt (bindT h 9 t w τ) fun τ => .ok (.fl (.nx τ)) h) (SPo σ0 D) from q) fun a1 h1 ρ1 H1 b1 s1 p1 => ?_
  obtain ⟨w, rfl, p2⟩ := toW_of p1
  obtain ⟨τ', e1, p3⟩ := Opt_of p2
  refine ⟨w, rfl, fun v rv => ⟨ρ1, h1, w, τ, 9, τ', s1, rv, rs.mono b1.1, e1, fun σ' rs' o1 => ?_⟩⟩
  obtain ⟨f, ef, qf⟩ := p3.now s1
  cases ef
  exact qf σ' rs' (bind_ag e1 rs o1 ag)
theorem ds_set {i : Nat} {x : Str} {e : Expr} {y : Ev.X} {pos pos' : Pos} (hN : X.N.Nodup) (hi : X.N[i]? = some x) (hx : Loc X.env.scope x) (he : PE X e (tE Pg cl E d y)) (hs : swapsWith e (some (.Name x pos')) pos.line X.env = pure false := by rfl) (hf : X.fn x = true ∨ X.env.scope.names.lookup x = some .local := by first | exact .inl rfl | exact .inr rfl | assumption) :
    PS X (.Assign [.Name x pos'] e pos) (tS Pg cl E d σ0 (.asg (.nm i) y)) := PS.of (ps_set hN hi hx he hs hf) fun D σ H q => by
  obtain ⟨ρ, τ, h, n, s, rs, p⟩ := asg_of q
  exact ⟨ρ, τ, h, n, s, rs, p.mono fun a h ρ H _ _ ⟨w, e, g⟩ => ⟨w, e, fun v rv => gname_of (g v rv)⟩⟩
theorem ds_asg {tg e : Expr} {t : Tg} {y : Ev.X} {pos : Pos} (he : PE X e (tE Pg cl E d y)) (hg : PG X tg (tG cl t)) (hs : swapsWithSole [tg] e pos.line X.env = pure false := by rfl) (hw : swappedStores [tg] e X.env = pure none := by rfl)
    (h1 : (assignEach [tg] X.env).map (·.2) = [assign tg X.env] := by rfl) : PS X (.Assign [tg] e pos) (tS Pg cl E d σ0 (.asg t y)) := PS.of (ps_asg he hg hs hw h1) fun _ _ _ q => asg_of q
theorem ds_expr {e : Expr} {y : Ev.X} {pos : Pos} (he : PE X e (tE Pg cl E d y)) (hs : swapsWith e none pos.line X.env = pure false := by rfl) : PS X (.Expr e pos) (tS Pg cl E d σ0 (.expr y)) := PS.of (ps_expr he hs) fun D σ H x => by
  obtain ⟨ρ, τ, h, n, s, rs, ag, q⟩ := x.step
  refine ev.then s rs (show Post cl ρ H E ((evs Pg n d (.x y) τ h).bind fun r h => r.toW fun _ => .ok (.fl (.nx τ)) h) (SPo σ0 D) from q) fun a1 h1 ρ1 H1 b1 s1 p1 => ?_
  obtain ⟨w, rfl, p2⟩ := toW_of p1
  refine ⟨w, rfl, fun v rv => ?_⟩
  obtain ⟨f, ef, qf⟩ := p2.now s1
  cases ef
  exact qf σ (rs.mono b1.1) ag
theorem ds_ret {e : Expr} {y : Ev.X} {pos : Pos} (he : PE X e (tE Pg cl E d y)) : PS X (.Return (some e) pos) (tS Pg cl E d σ0 (.ret y)) := PS.of (ps_ret he) fun D σ H x => by
  obtain ⟨ρ, τ, h, n, s, rs, ag, q⟩ := x.step
  refine ev.then s rs (show Post cl ρ H E ((evs Pg n d (.x y) τ h).bind fun r h => r.toW fun w => .ok (.fl (.rt w)) h) (SPo σ0 D) from q) fun a1 h1 ρ1 H1 b1 s1 p1 => ?_
  obtain ⟨w, rfl, p2⟩ := toW_of p1
  obtain ⟨f, ef, qf⟩ := p2.now s1
  cases ef
  exact ⟨w, rfl, qf⟩
theorem ds_if {c : Expr} {a b : List Stmt} {x : Ev.X} {sa sb : List S} {pos : Pos} (hc : PT X c (tT Pg cl E d x)) (ha : PSs X a (tSs Pg cl E d σ0 sa)) (hb : PSs X b (tSs Pg cl E d σ0 sb)) : PS X (.If c a b pos) (tS Pg cl E d σ0 (.ife x sa sb)) := PS.of (ps_if hc ha hb) fun D σ H z => by
  obtain ⟨ρ, τ, h, n, s, rs, ag, q⟩ := z.step
  refine ev.then s rs (show Post cl ρ H E ((evs Pg n d (.x x) τ h).bind fun r h => r.toW fun w => w.onB (evs Pg n d (.ss sb) τ h) (evs Pg n d (.ss sa) τ h)) (SPo σ0 D) from q) fun a1 h1 ρ1 H1 b1 s1 p1 => ?_
  obtain ⟨w, rfl, p2⟩ := toW_of p1
  refine ⟨w, rfl, fun v rv => ?_⟩
  rcases onB_of p2 with ⟨rfl, p3⟩ | ⟨rfl, p3⟩
  · cases rv
    exact ⟨true, rfl, iteT ⟨ρ1, τ, h1, n, s1, rs.mono b1.1, ag, p3⟩⟩
  · cases rv
    exact ⟨false, rfl, iteF ⟨ρ1, τ, h1, n, s1, rs.mono b1.1, ag, p3⟩⟩
theorem dss_nil : PSs X [] (tSs Pg cl E d σ0 []) := PSs.of pss_nil fun D σ H x => by
  obtain ⟨ρ, τ, h, n, s, rs, ag, q⟩ := x.step
  obtain ⟨f, ef, qf⟩ := Post.now s (show Post cl ρ H E (.ok (.fl (.nx τ)) h) (SPo σ0 D) from q)
  cases ef
  exact qf σ rs ag
theorem dss_cons {st : Stmt} {rest : List Stmt} {a : S} {as : List S} (h1 : PS X st (tS Pg cl E d σ0 a)) (h2 : PSs X rest (tSs Pg cl E d σ0 as)) : PSs X (st :: rest) (tSs Pg cl E d σ0 (a :: as)) := PSs.of (pss_cons h1 h2) fun D σ H x => by
  obtain ⟨ρ, τ, h, n, s, rs, ag, q⟩ := x.step
  refine evS.then s rs ag (show Post cl ρ H E ((evs Pg n d (.s a) τ h).bind fun r h => r.toF fun f => Fl.rec (fun τ => evs Pg n d (.ss as) τ h) (fun w => .ok (.fl (.rt w)) h) (fun τ => .ok (.fl (.bk τ)) h) (fun τ => .ok (.fl (.ct τ)) h) f) (SPo σ0 D) from q) fun a1 h1 ρ1 H1 b1 s1 p1 => ?_
  obtain ⟨f, rfl, p2⟩ := toF_of p1
  refine ⟨f, rfl, ?_⟩
  cases f with
  | nx τ1 => exact fun σ1 rs1 ag1 => ⟨ρ1, τ1, h1, n, s1, rs1, ag1, p2⟩
  | rt w =>
    obtain ⟨f, ef, qf⟩ := Post.now s1 (show Post cl ρ1 H1 E (.ok (.fl (.rt w)) h1) (SPo σ0 D) from p2)
    cases ef; exact qf
  | bk τ1 =>
    obtain ⟨f, ef, qf⟩ := Post.now s1 (show Post cl ρ1 H1 E (.ok (.fl (.bk τ1)) h1) (SPo σ0 D) from p2)
    cases ef; exact qf
  | ct τ1 =>
    obtain ⟨f, ef, qf⟩ := Post.now s1 (show Post cl ρ1 H1 E (.ok (.fl (.ct τ1)) h1) (SPo σ0 D) from p2)
    cases ef; exact qf
end
inductive ItOf (K : PySem.W.Frag) (ρ : List Addr) : Iv → It → Prop
  | lst {n a} : ρ[n]? = some a → ItOf K ρ (.lst n) (Itl K a)
  | tup {n a} : ρ[n]? = some a → ItOf K ρ (.tup n) (Itt K a)
  | rng (lo n) : ItOf K ρ (.rng lo n) (Itr lo n)
theorem ItOf.mono {K : PySem.W.Frag} {ρ ρ' : List Addr} (e : ρ <+: ρ') {v : Iv} {J : It} (x : ItOf K ρ v J) : ItOf K ρ' v J := by
  cases x with
  | lst h => exact .lst (pre_get e h)
  | tup h => exact .tup (pre_get e h)
  | rng lo n => exact .rng lo n
theorem next_of {K : PySem.W.Frag} {ρ : List Addr} {h : Hs} {v : Iv} {J : It} {i : Nat} {fin : R A} {go : W → R A} {P : A → Hs → List Addr → Hp → Prop} (s : Sim cl ρ h H) (x : ItOf K ρ v J) (p : Post cl ρ H E (v.next i h fin go) P) : (J.stop i H ∧ Post cl ρ H E fin P) ∨ (∃ w v', RW ρ w v' ∧ J.go i H ∧ (∀ y H', J.yld i H y H' → H' = H ∧ y = v') ∧ Post cl ρ H E (go w) P) := by
  cases x with
  | @lst n a e =>
    obtain ⟨o, ho, p1⟩ := Opt_of (show Post cl ρ H E (Opt (h.get n) fun o => o.onS fun xs => Option.rec fin go (nth xs i)) P from p)
    have x1 := s.at e ho
    cases o with
    | lst xs =>
      obtain ⟨vs, rv, q⟩ := x1
      have p2 : Post cl ρ H E (Option.rec fin go (nth xs i)) P := p1
      rw [nth_eq] at p2
      have hl := rv.length
      cases hx : xs[i]? with
      | none =>
        rw [hx] at p2
        exact .inl ⟨⟨vs, SqL.of q, by have := List.getElem?_eq_none_iff.mp hx; omega⟩, p2⟩
      | some w =>
        rw [hx] at p2
        obtain ⟨v', ev, rw⟩ := rv.get hx
        exact .inr ⟨w, v', rw, ⟨vs, v', SqL.of q, ev⟩, fun y H' z => ⟨z.1, by
          have := z.2 vs (SqL.of q)
          rw [ev] at this
          exact (Option.some.inj this).symm⟩, p2⟩
    | _ => exact p1.elim
  | @tup n a e =>
    obtain ⟨o, ho, p1⟩ := Opt_of (show Post cl ρ H E (Opt (h.get n) fun o => o.onT fun xs => Option.rec fin go (nth xs i)) P from p)
    have x1 := s.at e ho
    cases o with
    | tup xs =>
      obtain ⟨vs, rv, q⟩ := x1
      have p2 : Post cl ρ H E (Option.rec fin go (nth xs i)) P := p1
      rw [nth_eq] at p2
      have hl := rv.length
      cases hx : xs[i]? with
      | none =>
        rw [hx] at p2
        exact .inl ⟨⟨vs, SqT.of q, by have := List.getElem?_eq_none_iff.mp hx; omega⟩, p2⟩
      | some w =>
        rw [hx] at p2
        obtain ⟨v', ev, rw⟩ := rv.get hx
        exact .inr ⟨w, v', rw, ⟨vs, v', SqT.of q, ev⟩, fun y H' z => ⟨z.1, by
          have := z.2 vs (SqT.of q)
          rw [ev] at this
          exact (Option.some.inj this).symm⟩, p2⟩
    | _ => exact p1.elim
  | rng lo n =>
    have p1 : Post cl ρ H E (Bool.rec fin (go (.int (lo + .ofNat i))) (Nat.ble (i + 1) n)) P := p
    rw [ble_eq] at p1
    by_cases c : i + 1 ≤ n
    · rw [decide_eq_true c] at p1
      exact .inr ⟨_, _, .int _, c, fun y H' z => z, p1⟩
    · rw [decide_eq_false c] at p1
      exact .inl ⟨by show n ≤ i; omega, p1⟩
def DI (Pg : List Fn) (cl : Cn) (E : XK) (d : Nat) (K : PySem.W.Frag) (i : I) (wi : TI) : Prop := ∀ (σ : L2.St) (H : Hp) (R : It → Hp → Prop), ev Pg cl E d (.i i) σ H (fun r _ ρ1 H1 => ∃ v, r = .iv v ∧ ∀ J, ItOf K ρ1 v J → R J H1) → wi σ H R
theorem PI.or {tg l : Expr} {w w' : TI} (h : PI X tg l w) (h' : PI X tg l w') : PI X tg l (fun σ H R => w σ H R ∨ w' σ H R) := fun pins s σ H R I q => q.elim (h pins s σ H R I) (h' pins s σ H R I)
theorem within_of {ρ : List Addr} {H : Hp} {i : Int} {k : R A} {P : A → Hs → List Addr → Hp → Prop} (p : Post cl ρ H E (within i k) P) : (-(2 ^ 62) ≤ i ∧ i < 2 ^ 62) ∧ Post cl ρ H E k P := by
  obtain ⟨c, p⟩ := ifB_of p
  obtain ⟨c2, p⟩ := ifB_of p
  rw [ilt_eq] at c c2
  have c := of_decide_eq_true c
  have c2 := of_decide_eq_true c2
  exact ⟨⟨by omega, by omega⟩, p⟩
theorem oneA_of {ρ : List Addr} {H : Hp} {ws : List W} {vs : List V} {f : W → R A} {P : A → Hs → List Addr → Hp → Prop} (r : RWs ρ ws vs) (p : Post cl ρ H E (oneA ws f) P) : ∃ w v, ws = [w] ∧ vs = [v] ∧ RW ρ w v ∧ Post cl ρ H E (f w) P := by
  cases r with
  | nil => exact p.elim
  | cons r1 t => cases t with
    | nil => exact ⟨_, _, rfl, rfl, r1, p⟩
    | cons _ _ => exact p.elim
theorem di_rng1 {K : PySem.W.Frag} {as : List Ev.X} : DI Pg cl E d K (.rng1 as) (L2.iRng1 (tA Pg cl E d as)) := fun σ H R x => by
  obtain ⟨ρ, τ, h, n, s, rs, q⟩ := x.step
  refine ev.then s rs (show Post cl ρ H E ((evs Pg n d (.a as) τ h).bind fun r h => r.toL fun ws => oneA ws fun w => w.onI fun j => within j (.ok (A.iv (.rng 0 j.toNat)) h)) (fun r _ ρ1 H1 => ∃ v, r = .iv v ∧ ∀ J, ItOf K ρ1 v J → R J H1) from q) fun a1 h1 ρ1 H1 b1 s1 p1 => ?_
  obtain ⟨ws, rfl, p2⟩ := toL_of p1
  refine ⟨ws, rfl, fun vs rv => ?_⟩
  obtain ⟨w, v, rfl, rfl, r1, p3⟩ := oneA_of rv p2
  obtain ⟨j, rfl, p4⟩ := onI_of p3
  obtain ⟨c, p5⟩ := within_of p4
  cases r1
  obtain ⟨v, ev, g⟩ := p5.now s1
  cases ev
  exact ⟨j, rfl, c.1, c.2, g _ (.rng _ _)⟩
section
variable {σ0 : L2.St}
theorem for_of {K : PySem.W.Frag} {i : I} {t : Tg} {b : List S} {wi : TI} {D : Ends} (di : DI Pg cl E d K i wi) (x : tS Pg cl E d σ0 (.for_ i t b) D σ H) : tFor wi (tG cl t) (tSs Pg cl E d σ0 b) D σ H := by
  obtain ⟨ρ, τ, h, n, s, rs, ag, q⟩ := x.step
  refine di σ H _ (ev.then s rs (show Post cl ρ H E ((evs Pg n d (.i i) τ h).bind fun r h => r.toV fun v => evs Pg n d (.lp v 0 t b) τ h) (SPo σ0 D) from q) fun a1 h1 ρ1 H1 b1 s1 p1 => ?_)
  obtain ⟨v, rfl, p2⟩ := toV_of p1
  refine ⟨v, rfl, fun J hJ => ?_⟩
  refine ⟨fun i m σ H => ∃ ρ τ h, Sim cl ρ h H ∧ RS ρ τ σ ∧ Ag σ0 τ σ ∧ ItOf K ρ v J ∧ Post cl ρ H E (evs Pg m d (.lp v i t b) τ h) (SPo σ0 D), ⟨n, ρ1, τ, h1, s1, rs.mono b1.1, ag, hJ, p2⟩, ?_⟩
  rintro i m σ2 H2 ⟨ρ2, τ2, h2, s2, rs2, ag2, j2, p3⟩
  cases m with
  | zero => exact p3.elim
  | succ m =>
    have p4 : Post cl ρ2 H2 E (v.next i h2 (.ok (.fl (.nx τ2)) h2) fun w => Opt (bindT h2 9 t w τ2) fun τ => (evs Pg m d (.ss b) τ h2).bind fun r h => r.toF fun f => loopF h f fun τ => evs Pg m d (.lp v (i + 1) t b) τ h) (SPo σ0 D) := p3
    rcases next_of s2 j2 p4 with ⟨st, p5⟩ | ⟨w, v', rw, go, yl, p5⟩
    · obtain ⟨f, ef, qf⟩ := p5.now s2
      cases ef
      exact .inl ⟨st, qf σ2 rs2 ag2⟩
    · obtain ⟨τ3, e3, p6⟩ := Opt_of p5
      refine .inr ⟨go, fun σ' H' => ∃ ρ τ h, Sim cl ρ h H' ∧ RS ρ τ σ' ∧ Ag σ0 τ σ' ∧ ItOf K ρ v J ∧ Post cl ρ H' E (evs Pg m d (.lp v (i + 1) t b) τ h) (SPo σ0 D), fun σ' H' z => ⟨m, Nat.lt_succ_self m, z⟩, fun y H' yy => ?_⟩
      obtain ⟨rfl, rfl⟩ := yl y H' yy
      refine ⟨ρ2, h2, w, τ2, 9, τ3, s2, rw, rs2, e3, fun σ3 rs3 o3 => ?_⟩
      refine evS.then s2 rs3 (bind_ag e3 rs2 o3 ag2) p6 fun a4 h4 ρ4 H4 b4 s4 p7 => ?_
      obtain ⟨f, rfl, p8⟩ := toF_of p7
      refine ⟨f, rfl, ?_⟩
      cases f with
      | nx τ4 => exact fun σ4 rs4 ag4 => ⟨ρ4, τ4, h4, s4, rs4, ag4, j2.mono b4.1, p8⟩
      | ct τ4 => exact fun σ4 rs4 ag4 => ⟨ρ4, τ4, h4, s4, rs4, ag4, j2.mono b4.1, p8⟩
      | rt w4 =>
        obtain ⟨f, ef, qf⟩ := Post.now s4 (show Post cl ρ4 H4 E (.ok (.fl (.rt w4)) h4) (SPo σ0 D) from p8)
        cases ef; exact qf
      | bk τ4 =>
        obtain ⟨f, ef, qf⟩ := Post.now s4 (show Post cl ρ4 H4 E (.ok (.fl (.nx τ4)) h4) (SPo σ0 D) from p8)
        cases ef; exact qf
theorem ds_for {iter tg : Expr} {body : List Stmt} {wi : TI} {i : I} {t : Tg} {b : List S} {pos : Pos} (hp : PassesOwn (model X.prog X.w) X.A X.env X.xe) (hc : X.calm = true) (di : DI Pg cl E d X.K i wi) (hi : PI X tg iter wi) (hg : PG X tg (tG cl t)) (hb : PSs X body (tSs Pg cl E d σ0 b))
    (hs : ∀ x, foldedSetIterable iter X.env x = pure x := by intro _; rfl) : PS X (.For tg iter body [] pos) (tS Pg cl E d σ0 (.for_ i t b)) := PS.of (ps_for hp hc hi hg hb hs) fun _ _ _ q => for_of di q
end
end
end Ev

set_option maxRecDepth 100000
set_option maxHeartbeats 4000000
namespace Ev
open PySem PySem.Spec PySem.SeqAt PyProof.Rows L2
section
variable {Pg : List Fn} {cl : Cn} {E : XK} {d : Nat} {X : Cx} {σ : L2.St} {H : Hp}
def tCd (Pg : List Fn) (cl : Cn) (d : Nat) : Option Ev.X → TT
  | none => tNoIf
  | some c => tT Pg cl E0 d c
theorem wk_of : ∀ {σ σ' : L2.St}, σ'.length = σ.length → (∀ (i : Nat) (v : V), σ[i]? = some (some v) → σ'[i]? = some (some v)) → Wk σ σ'
  | [], [], _, _ => trivial
  | [], _ :: _, h, _ => by simp at h
  | _ :: _, [], h, _ => by simp at h
  | none :: r, b :: r', h, f => by
    show Wk r r'
    exact wk_of (by simpa using h) fun i v e => by simpa using f (i + 1) v (by simpa using e)
  | some a :: r, b :: r', h, f => by
    have hb := f 0 a rfl
    refine ⟨by simpa using hb, wk_of (by simpa using h) fun i v e => by simpa using f (i + 1) v (by simpa using e)⟩
theorem Off.wk {vs : List Nat} {σ σ' : L2.St} (o : Off vs σ σ') (h : ∀ i ∈ vs, σ[i]? = some none) : Wk σ σ' := wk_of o.1 fun i v e => by
  by_cases hi : i ∈ vs
  · rw [h i hi] at e; cases e
  · rw [o.2 i hi]; exact e
def Inn (Pg : List Fn) (cl : Cn) (d : Nat) (e : Ev.X) (D0 : Nat) (D : Addr) (m : Option G) (C : L2.St → Prop) (tin : TN) : Prop := ∀ (σ1 : L2.St) (τ1 : Sg) (h : Hs) (ρ : List Addr) (H : Hp) (n : Nat) (k : Hs → R A) (P : A → Hs → List Addr → Hp → Prop) (N : Hp → Prop), Sim cl ρ h H → RS ρ τ1 σ1 → ρ[D0]? = some D → C σ1 →
  Post cl ρ H E0 (inner (evs Pg n) d τ1 h e D0 m k) P → (∀ h' ρ' H', Bt cl ρ H ρ' H' → Sim cl ρ' h' H' → Post cl ρ' H' E0 (k h') P → N H') → tin σ1 H N
theorem loop_of {K : PySem.W.Frag} {v : Iv} {J : It} {t : Tg} {c : Option Ev.X} {m : Option G} {e : Ev.X} {D0 : Nat} {D : Addr} {C : L2.St → Prop} {tin : TN} (hin : Inn Pg cl d e D0 D m C tin) {ρ : List Addr} {h : Hs} {τ : Sg} {n : Nat} {P : A → Hs → List Addr → Hp → Prop} {Q : Hp → Prop}
    (s : Sim cl ρ h H) (rs : RS ρ τ σ) (hJ : ItOf K ρ v J) (hD : ρ[D0]? = some D) (hv : ∀ i ∈ vars t, σ[i]? = some none) (hC : ∀ σ1, Off (vars t) σ σ1 → C σ1) (p : Post cl ρ H E0 (evs Pg n d (.cl v 0 t c m e D0) τ h) P)
    (hQ : ∀ r h' ρ' H', Bt cl ρ H ρ' H' → Sim cl ρ' h' H' → P r h' ρ' H' → Q H') : tLoop J (tG cl t) (tCd Pg cl d c) tin σ H Q := by
  refine ⟨fun i m' H' => ∃ ρ' h', Bt cl ρ H ρ' H' ∧ Sim cl ρ' h' H' ∧ Post cl ρ' H' E0 (evs Pg m' d (.cl v i t c m e D0) τ h') P, ⟨n, ρ, h, Bt.refl, s, p⟩, ?_⟩
  rintro i m' H2 ⟨ρ2, h2, b2, s2, p2⟩
  cases m' with
  | zero => exact p2.elim
  | succ m' =>
    have p3 : Post cl ρ2 H2 E0 (v.next i h2 (.ok .u h2) fun w => Opt (bindT h2 9 t w τ) fun τ1 =>
      test (evs Pg m') d τ1 h2 c (fun h => evs Pg m' d (.cl v (i + 1) t c m e D0) τ h) (fun h => inner (evs Pg m') d τ1 h e D0 m fun h => evs Pg m' d (.cl v (i + 1) t c m e D0) τ h)) P := p2
    rcases next_of s2 (hJ.mono b2.1) p3 with ⟨st, p4⟩ | ⟨w, v', rw, go, yl, p4⟩
    · exact .inl ⟨st, hQ _ _ _ _ b2 s2 (p4.now s2)⟩
    · obtain ⟨τ1, e1, p5⟩ := Opt_of p4
      refine .inr ⟨go, fun H' => ∃ ρ' h', Bt cl ρ H ρ' H' ∧ Sim cl ρ' h' H' ∧ Post cl ρ' H' E0 (evs Pg m' d (.cl v (i + 1) t c m e D0) τ h') P, fun H' z => ⟨m', Nat.lt_succ_self m', z⟩, fun y H' yy => ?_⟩
      obtain ⟨rfl, rfl⟩ := yl y H' yy
      refine ⟨ρ2, h2, w, τ, 9, τ1, s2, rw, rs.mono b2.1, e1, fun σ1 rs1 o1 => ⟨o1.wk hv, ?_⟩⟩
      have fin : ∀ {ρ3 : List Addr} {h3 : Hs} {H3 : Hp}, Bt cl ρ2 H' ρ3 H3 → Sim cl ρ3 h3 H3 → Post cl ρ3 H3 E0 (inner (evs Pg m') d τ1 h3 e D0 m fun h => evs Pg m' d (.cl v (i + 1) t c m e D0) τ h) P →
          tin σ1 H3 fun H' => ∃ ρ' h', Bt cl ρ H ρ' H' ∧ Sim cl ρ' h' H' ∧ Post cl ρ' H' E0 (evs Pg m' d (.cl v (i + 1) t c m e D0) τ h') P := fun {ρ3 h3 H3} b3 s3 q3 =>
        hin σ1 τ1 h3 ρ3 H3 m' _ P _ s3 (rs1.mono b3.1) (pre_get (b2.1.trans b3.1) hD) (hC σ1 o1) q3 fun h' ρ' H' b' s' q' => ⟨ρ', h', (b2.trans b3).trans b', s', q'⟩
      cases c with
      | none => exact fin Bt.refl s2 p5
      | some c =>
        refine ev.then s2 rs1 (show Post cl ρ2 H' E0 ((evs Pg m' d (.x c) τ1 h2).bind fun r h => r.toW fun w => w.onB (evs Pg m' d (.cl v (i + 1) t (some c) m e D0) τ h) (inner (evs Pg m') d τ1 h e D0 m fun h => evs Pg m' d (.cl v (i + 1) t (some c) m e D0) τ h)) P from p5) fun a3 h3 ρ3 H3 b3 s3 p6 => ?_
        obtain ⟨w3, rfl, p7⟩ := toW_of p6
        refine ⟨w3, rfl, fun v3 rv3 => ?_⟩
        rcases onB_of p7 with ⟨rfl, p8⟩ | ⟨rfl, p8⟩
        · cases rv3
          exact ⟨true, rfl, iteT (fin b3 s3 p8)⟩
        · cases rv3
          exact ⟨false, rfl, iteF ⟨ρ3, h3, b2.trans b3, s3, p8⟩⟩
theorem inn_emit {e : Ev.X} {D0 : Nat} {D : Addr} {C : L2.St → Prop} : Inn Pg cl d e D0 D none C (tEmit D (tE Pg cl E0 d e)) := fun σ1 τ1 h ρ H n k P N s rs hD _ p hN => by
  refine ev.then s rs (show Post cl ρ H E0 ((evs Pg n d (.x e) τ1 h).bind fun r h => r.toW fun w => (pAppend h (.ref D0) w).bind fun _ h => k h) P from p) fun a1 h1 ρ1 H1 b1 s1 p1 => ?_
  obtain ⟨w, rfl, p2⟩ := toW_of p1
  refine ⟨w, rfl, fun v rv => ?_⟩
  have hD1 := pre_get b1.1 hD
  obtain ⟨o, ho, x1⟩ := s1.obj D0 D hD1
  have e1 : pAppend h1 (.ref D0) w = Opt (h1.get D0) fun o => o.onL fun xs => size xs (.ok .non (h1.set D0 (.lst (app xs [w])))) := rfl
  rw [e1, ho] at p2
  cases o with
  | lst xs =>
    have p3 : Post cl ρ1 H1 E0 ((size xs (.ok .non (h1.set D0 (.lst (app xs [w]))))).bind fun _ h => k h) P := p2
    unfold size at p3
    rw [ble_eq, len_eq] at p3
    by_cases z : xs.length ≤ 16777215
    · rw [decide_eq_true z] at p3
      obtain ⟨vs, rvs, q⟩ := x1
      have hl := rvs.length
      refine ⟨vs, q, by rw [line_eq]; omega, ?_⟩
      have s2 : Sim cl ρ1 (h1.set D0 (.lst (app xs [w]))) (upd H1 D (.lst (vs ++ [v]))) := s1.put hD1 ⟨_, by rw [app_eq]; exact rvs.append (.cons rv .nil), upd_same⟩
      refine hN _ ρ1 _ (b1.trans (Bt.put hD1)) s2 ?_
      exact (show Post cl ρ1 H1 E0 (k (h1.set D0 (.lst (app xs [w])))) P from p3).later (Bt.put hD1)
    · rw [decide_eq_false z] at p3
      exact p3.elim
  | _ => exact p2.elim
theorem nox_of {ρ : List Addr} {H : Hp} {α : Type} {r : R α} {P : α → Hs → List Addr → Hp → Prop} (p : Post cl ρ H E r.nox P) : Post cl ρ H E0 r P := by
  cases r with
  | ok a h => exact p
  | ex C fs h => exact p.elim
  | no => exact p
theorem blk_rs {ρ : List Addr} {τ : Sg} (rs : RS ρ τ σ) (nt : Nat) (idx : List Nat) : RS ρ (blkS nt idx τ) (sgb nt idx σ) := by
  have base : RS ρ (List.rec (motive := fun _ => Sg) [] (fun i _ r => getAt τ i :: r) idx) (idx.map fun j => (σ[j]?).getD none) := by
    induction idx with
    | nil => exact .nil
    | cons i idx ih =>
      refine .cons ?_ ih
      show RO ρ (getAt τ i) ((σ[i]?).getD none)
      cases e : getAt τ i with
      | none => exact trivial
      | some w =>
        obtain ⟨v, ev, rv⟩ := rs.get e
        rw [ev]; exact rv
  unfold sgb
  induction nt with
  | zero => exact base
  | succ nt ih => exact .cons trivial ih
theorem sgb_none {nt : Nat} {idx : List Nat} {i : Nat} (h : i < nt) : (sgb nt idx σ)[i]? = some none := by
  unfold sgb
  rw [List.getElem?_append_left (by simpa using h), List.getElem?_replicate, if_pos h]
theorem comp_of {K : PySem.W.Frag} {nt : Nat} {idx : List Nat} {it : I} {t : Tg} {c : Option Ev.X} {m : Option G} {e : Ev.X} {wi : TI} {tin : Addr → TN} {Q : VK} (di : DI Pg cl E d K it wi) {C : L2.St → Prop} (hin : ∀ D0 D, Inn Pg cl d e D0 D m C (tin D)) (hv : ∀ i ∈ vars t, i < nt)
    (hC : ∀ σ σ1, Off (vars t) (sgb nt idx σ) σ1 → C σ1) (x : tE Pg cl E d (.comp nt idx it t c m e) σ H Q) : tComp nt idx wi (tG cl t) (tCd Pg cl d c) tin σ H Q := by
  obtain ⟨ρ, τ, h, n, s, rs, q⟩ := x.step
  refine di σ H _ (ev.then s rs (show Post cl ρ H E ((evs Pg n d (.i it) τ h).bind fun r h => r.toV fun v => (evs Pg n d (.cl v 0 t c m e h.n) (blkS nt idx τ) (h.push (.lst []))).nox.bind fun _ h' => .ok (.w (.ref h.n)) h') (VP Q) from q) fun a1 h1 ρ1 H1 b1 s1 p1 => ?_)
  obtain ⟨v, rfl, p2⟩ := toV_of p1
  refine ⟨v, rfl, fun J hJ D hD => ?_⟩
  have s2 : Sim cl (ρ1 ++ [D]) (h1.push (.lst [])) (upd H1 D (.lst [])) := s1.push hD ⟨[], .nil, upd_same⟩
  have gD : (ρ1 ++ [D])[h1.n]? = some D := by rw [← s1.len, List.getElem?_append_right (Nat.le_refl _), Nat.sub_self]; rfl
  refine loop_of (hin h1.n D) s2 ((blk_rs rs nt idx).mono (b1.1.trans (List.prefix_append _ _))) (hJ.mono (List.prefix_append _ _)) gD (fun i hi => sgb_none (hv i hi)) (fun σ1 o => hC σ σ1 o) (nox_of (p2.later (Bt.new hD)).bind) fun r h' ρ' H' b' s' q' => ?_
  exact Post.nowV s' q' (.ref (pre_get b'.1 gD))
theorem dts_nil : PTs X [] (tCd Pg cl d none) := pts_nil
variable {N' : List Str} {sc : Scope} {nt : Nat} {idx : List Nat} {elt tg iter tg2 iter2 : Expr} {ifs ifs2 : List Expr} {gs : List Comprehension} {pos : Pos} {wi wi2 : TI} {it it2 : I} {t t2 : Tg} {c c2 : Option Ev.X} {e : Ev.X}
theorem de_comp1 (B : BlkOk X N' sc nt idx) (hc : X.calm = true) (di : DI Pg cl E d X.K it wi) (hi : PI X tg iter wi) (hg : ∀ C s₀ H₀ fp, PG (blk X N' sc C s₀ H₀ fp) tg (tG cl t)) (hif : ∀ C s₀ H₀ fp, PTs (blk X N' sc C s₀ H₀ fp) ifs (tCd Pg cl d c)) (he : ∀ C s₀ H₀ fp, PE (blk X N' sc C s₀ H₀ fp) elt (tE Pg cl E0 d e)) (hv : ∀ i ∈ vars t, i < nt)
    (hs : ∀ x, foldedSetIterable iter X.env x = pure x := by intro _; rfl) : PE X (.ListComp elt [⟨tg, iter, ifs, 0⟩] sc pos) (tE Pg cl E d (.comp nt idx it t c none e)) :=
  PE.of (pe_comp B hc hi (comp1 hg hif he) hs) fun _ _ _ q => comp_of di (C := fun _ => True) (fun _ _ => inn_emit) hv (fun _ _ _ => trivial) q
end
section
variable {Pg : List Fn} {cl : Cn} {E : XK} {d : Nat} {X : Cx} {σ : L2.St} {H : Hp}
def spF (Pg : List Fn) (cl : Cn) (d f : Nat) : Sp := fun vs H Q E => ∃ ρ ws h n, Sim cl ρ h H ∧ RWs ρ ws vs ∧ Post cl ρ H E (evs Pg n d (.call f ws) [] h) (VP Q)
theorem call_of {f : Nat} {as : List Ev.X} {Q : VK} (x : tE Pg cl E d (.call f as) σ H Q) : tCall (spF Pg cl d f) [] E (tA Pg cl E d as) σ H Q := by
  obtain ⟨ρ, τ, h, n, s, rs, q⟩ := x.step
  refine ev.then s rs (show Post cl ρ H E ((evs Pg n d (.a as) τ h).bind fun a h => a.toL fun ws => evs Pg n d (.call f ws) [] h) (VP Q) from q) fun a1 h1 ρ1 H1 b1 s1 p1 => ?_
  obtain ⟨ws, rfl, p2⟩ := toL_of p1
  exact ⟨ws, rfl, fun vs rv => ⟨ρ1, ws, h1, n, s1, by rw [List.append_nil]; exact rv, p2⟩⟩
theorem callF_of {f : Nat} {ws : List W} {h : Hs} {n : Nat} {ρ : List Addr} {P : A → Hs → List Addr → Hp → Prop} (p : Post cl ρ H E (evs Pg n d (.call f ws) [] h) P) : ∃ n' d' F, d = d' + 1 ∧ Pg[f]? = some F ∧ Post cl ρ H E (body (evs Pg n') d' h ws F) P := by
  cases n with
  | zero => exact p.elim
  | succ n =>
    cases d with
    | zero => exact p.elim
    | succ d =>
      obtain ⟨F, e, q⟩ := Opt_of (show Post cl ρ H E (Opt (nth Pg f) (body (evs Pg n) d h ws)) P from p)
      rw [nth_eq] at e
      exact ⟨n, d, F, rfl, e, q⟩
theorem body_of {np nn : Nat} {b : List S} {ws : List W} {h : Hs} {n : Nat} {ρ : List Addr} {P : A → Hs → List Addr → Hp → Prop} (p : Post cl ρ H E (body (evs Pg n) d h ws (.mk np nn b)) P) : ws.length = np ∧ Post cl ρ H E ((evs Pg n d (.ss b) (frame nn ws) h).bind fun r h => r.toF fun f => retOf h f) P := by
  obtain ⟨e, q⟩ := ifB_of (show Post cl ρ H E (ifB (Nat.beq (len ws) np) ((evs Pg n d (.ss b) (frame nn ws) h).bind fun r h => r.toF fun f => retOf h f) .no) P from p)
  rw [len_eq] at e
  exact ⟨beq_t.mp e, q⟩
theorem frame_rs {ρ : List Addr} {ws : List W} {vs : List V} (r : RWs ρ ws vs) (N : List Str) : RS ρ (frame N.length ws) (L2.start N vs) := by
  unfold frame L2.start
  rw [app_eq, len_eq, r.length]
  have rep : ∀ k : Nat, RS ρ (Nat.rec (motive := fun _ => Sg) [] (fun _ r => none :: r) k) (List.replicate k none) := fun k => by
    induction k with
    | zero => exact .nil
    | succ k ih => exact .cons trivial ih
  have app' : ∀ {a b : Sg} {u w : L2.St}, RS ρ a u → RS ρ b w → RS ρ (a ++ b) (u ++ w) := by
    intro a b u w r1 r2
    induction r1 with
    | nil => exact r2
    | cons x _ ih => exact .cons x ih
  refine app' ?_ (rep _)
  have go : ∀ {ws : List W} {vs : List V}, RWs ρ ws vs → RS ρ (List.rec (motive := fun _ => Sg) [] (fun w _ r => some w :: r) ws) (vs.map some) := by
    intro ws vs r
    induction r with
    | nil => exact .nil
    | cons r1 _ ih => exact .cons r1 ih
  exact go r
theorem fn_ev {P : Program} {w : World} {K : PySem.W.Frag} {mg : Str → Option Value} {base : Heap} {k i : Nat} {x qual : Str} {st : Stmt} {f : Addr} {fd : FuncData} {N ps : List Str} {b : List S} (F : Fun K x qual st f fd) (Sc : FnScope N ps (defScope st)) (hp : Pg[i]? = some (.mk ps.length N.length b))
    (hbody : ∀ (σ0 : L2.St) (cdv : Value) (A : Around) (outer : List Env) (s : Shared) (H : Hp) (E : XK), Room k (A.deeper (envOfC qual (defScope st) s.heap.objs.size f cdv)) →
      PSs (cxOf (CXE P w) P w K mg base N qual (defScope st) f cdv A outer s H E) (defBody st) (tSs Pg cl E d σ0 b)) : FnOk P w K mg base (CXE P w) (k + 1) f fd ps (spF Pg cl (d + 1) i) := by
  obtain ⟨oc, od, kV, doc, pm, an, cdv, ct, osl, rfl, lk, hcd⟩ := F.ex
  have lenh : ∀ vs H Q E, spF Pg cl (d + 1) i vs H Q E → vs.length = ps.length := fun vs H Q E ⟨ρ, ws, h, n, s, r, p⟩ => by
    obtain ⟨n', d', F', e1, e2, q⟩ := callF_of p
    rw [hp] at e2; cases e2
    rw [← r.length]; exact (body_of q).1
  refine fn_of lk hcd Sc lenh fun A outer s H vs Q E hr hsp => ?_
  obtain ⟨ρ, ws, h, n, s1, r, p⟩ := hsp
  obtain ⟨n', d', F', e1, e2, q⟩ := callF_of p
  rw [hp] at e2; cases e2
  cases e1
  obtain ⟨_, q2⟩ := body_of q
  refine ⟨_, hbody (L2.start N vs) cdv A outer s H E hr, ρ, frame N.length ws, h, n', s1, frame_rs r N, fun _ _ => rfl, q2.bind.mono fun a h1 ρ1 H1 b1 s2 p2 => ?_⟩
  obtain ⟨fl, rfl, p3⟩ := toF_of p2
  refine ⟨fl, rfl, ?_⟩
  cases fl with
  | nx τ => exact fun σ' _ _ => Post.nowV s2 (show Post cl ρ1 H1 E (.ok (.w .non) h1) (VP Q) from p3) .non
  | rt w => exact fun v rv => Post.nowV s2 (show Post cl ρ1 H1 E (.ok (.w w) h1) (VP Q) from p3) rv
  | bk τ => exact p3.elim
  | ct τ => exact p3.elim
theorem de_call {k f : Nat} {fa : Addr} {fd : FuncData} {ps : List Str} {x : Str} {e : Expr} {es : List Expr} {y : Ev.X} {ys : List Ev.X} {p pos : Pos} (F : FnOk X.prog X.w X.K X.mg X.base (CXE X.prog X.w) k fa fd ps (spF Pg cl d f)) (hr : Room k X.A) (hg : Gl X x) (hm : X.mg x = some (.ref fa)) (hk : PySem.W.keepIn X.K (.ref fa) = true) (hb : Binds X.K fd ps [])
    (hx : Passes (CXE X.prog X.w) X E) (ha : PA X (e :: es) (tA Pg cl E d (y :: ys))) (hdb : (x == ("__debug__" : Str)) = false := by decide) (he : starEach (e :: es) X.env = (false, eval e X.env) :: starEach es X.env := by rfl) (hpl : (backTo pos (starEach es X.env)).any (·.1) = false := by rfl) :
    PE X (.Call (.Name x p) (e :: es) [] pos) (tE Pg cl E d (.call f (y :: ys))) := PE.of (pe_call F hr hg hm hk hb .nil hx ha hdb he hpl) fun _ _ _ q => call_of q
theorem fld_of {C : Nat} {o : Ev.X} {f : List Nat} {K : PySem.W.Frag} {Q : VK} (c : Cls K (cl C)) (na : NoAttr K (cl C) (nm f)) (x : tE Pg cl E d (.fld C o f) σ H Q) : tFld K (tE Pg cl E d o) (nm f) σ H Q := by
  obtain ⟨ρ, τ, h, n, s, rs, q⟩ := x.step
  refine ev.then s rs (show Post cl ρ H E ((evs Pg n d (.x o) τ h).bind fun r h => r.toW fun w => h.at w fun _ o => o.onI fun C' fs => ifB (Nat.beq C C') (Opt (fget fs f) fun w => .ok (.w w) h) .no) (VP Q) from q) fun a1 h1 ρ1 H1 b1 s1 p1 => ?_
  obtain ⟨w, rfl, p2⟩ := toW_of p1
  refine ⟨w, rfl, fun v rv => ?_⟩
  obtain ⟨k, ob, a, rfl, rfl, e1, g1, x1, p3⟩ := at_of s1 rv p2
  obtain ⟨C', fs, rfl, p4⟩ := onIn_of p3
  obtain ⟨ec, p5⟩ := ifB_of p4
  obtain ⟨w2, ew, p6⟩ := Opt_of p5
  have ec := beq_t.mp ec
  subst ec
  obtain ⟨dx, gs, fr, qh⟩ := x1
  obtain ⟨u, eu, ru⟩ := fr.get ew
  exact ⟨a, _, dx, gs, u, rfl, qh, c, na, eu, Post.nowV s1 p6 ru⟩
theorem de_fld {C : Nat} {e : Expr} {o : Ev.X} {f : Str} {fc : List Nat} {pos : Pos} (c : Cls X.K (cl C)) (na : NoAttr X.K (cl C) f) (he : PE X e (tE Pg cl E d o)) (ef : f = nm fc := by decide +kernel) (hb : attributeBase e f X.env (eval e X.env) = eval e X.env := by rfl) : PE X (.Attribute e f pos) (tE Pg cl E d (.fld C o fc)) := by
  subst ef
  exact PE.of (pe_fld he hb) fun _ _ _ q => fld_of c na q
theorem FR.put {ρ : List Addr} {f : List Nat} {w : W} {v : V} (r : RW ρ w v) : ∀ {fs : Fs} {gs : List (Str × V)}, FR ρ fs gs → FR ρ (fput f w fs) (putF (nm f) v gs)
  | _, _, .nil => .cons ⟨rfl, r⟩ .nil
  | p :: fs, (x, u) :: gs, .cons z t => by
    obtain ⟨e1, r1⟩ := z
    have e1 : x = nm p.1 := e1
    show FR ρ (ifB (codes p.1 f) ((f, w) :: fs) (p :: fput f w fs)) (if x = nm f then (x, v) :: gs else (x, u) :: putF (nm f) v gs)
    cases c : codes p.1 f with
    | true =>
      have ec := codes_t.mp c
      rw [if_pos (by rw [e1, ec])]
      exact .cons ⟨by show x = nm f; rw [e1, ec], r⟩ t
    | false =>
      rw [if_neg (fun z => by rw [e1] at z; rw [codes_t.mpr (nm_inj z)] at c; cases c)]
      exact .cons ⟨e1, r1⟩ (FR.put r t)
theorem FR.length {ρ : List Addr} {fs : Fs} {gs : List (Str × V)} (h : FR ρ fs gs) : fs.length = gs.length := Paired.length h
theorem ds_fld {σ0 : L2.St} {C : Nat} {o value : Expr} {xo xv : Ev.X} {f : Str} {fc : List Nat} {pos pos' : Pos} (c : Cls X.K (cl C)) (na : NoAttr X.K (cl C) f) (ha : PE X o (tE Pg cl E d xo)) (hv : PE X value (tE Pg cl E d xv)) (ef : f = nm fc := by decide +kernel) (hs : swapsWith value (some (.Attribute o f pos')) pos.line X.env = pure false := by rfl) :
    PS X (.Assign [.Attribute o f pos'] value pos) (tS Pg cl E d σ0 (.setf C xo fc xv)) := by
  subst ef
  refine PS.of (ps_fld ha hv hs) fun D σ H x => ?_
  obtain ⟨ρ, τ, h, n, s, rs, ag, q⟩ := x.step
  refine ev.then s rs (show Post cl ρ H E ((evs Pg n d (.x xv) τ h).bind fun r h => r.toW fun w => (evs Pg n d (.x xo) τ h).bind fun r h => r.toW fun o => h.at o fun n o => o.onI fun C' fs => ifB (Nat.beq C C') (ifB (Nat.ble (len fs) 900) (.ok (.fl (.nx τ)) (h.set n (.ins C (fput fc w fs)))) .no) .no) (SPo σ0 D) from q) fun a1 h1 ρ1 H1 b1 s1 p1 => ?_
  obtain ⟨w, rfl, p2⟩ := toW_of p1
  refine ⟨w, rfl, fun v rv => ?_⟩
  refine ev.then s1 (rs.mono b1.1) p2 fun a2 h2 ρ2 H2 b2 s2 p3 => ?_
  obtain ⟨w2, rfl, p4⟩ := toW_of p3
  refine ⟨w2, rfl, fun v2 rv2 => ?_⟩
  obtain ⟨k, ob, a, rfl, rfl, e1, g1, x1, p5⟩ := at_of s2 rv2 p4
  obtain ⟨C', fs, rfl, p6⟩ := onIn_of p5
  obtain ⟨ec, p7⟩ := ifB_of p6
  obtain ⟨el, p8⟩ := ifB_of p7
  have ec := beq_t.mp ec
  subst ec
  rw [ble_eq, len_eq] at el
  have el := of_decide_eq_true el
  obtain ⟨dx, gs, fr, qh⟩ := x1
  have hl := fr.length
  refine ⟨a, _, dx, gs, rfl, qh, c, na, by omega, ?_⟩
  obtain ⟨fl, efl, qf⟩ := p8 ρ2 (upd H2 a (.ins (cl C) dx (putF (nm fc) v gs))) (Bt.put e1) (s2.put e1 ⟨dx, _, fr.put (rv.mono b2.1), upd_same⟩)
  cases efl
  exact qf σ ((rs.mono b1.1).mono b2.1) ag
theorem ometh_of {C f : Nat} {m : List Nat} {o : Ev.X} {as : List Ev.X} {Q : VK} (x : tE Pg cl E d (.meth C m f o as) σ H Q) : tMeth (cl C) (nm m) (spF Pg cl d f) [] E (tE Pg cl E d o) (tA Pg cl E d as) σ H Q := by
  obtain ⟨ρ, τ, h, n, s, rs, q⟩ := x.step
  refine ev.then s rs (show Post cl ρ H E ((evs Pg n d (.x o) τ h).bind fun r h => r.toW fun w => h.at w fun _ o => o.onI fun C' fs =>
    ifB (Nat.beq C C') (Option.rec ((evs Pg n d (.a as) τ h).bind fun a h => a.toL fun ws => evs Pg n d (.call f (w :: ws)) [] h) (fun _ => .no) (fget fs m)) .no) (VP Q) from q) fun a1 h1 ρ1 H1 b1 s1 p1 => ?_
  obtain ⟨w, rfl, p2⟩ := toW_of p1
  refine ⟨w, rfl, fun v rv => ?_⟩
  obtain ⟨k, ob, a, rfl, rfl, e1, g1, x1, p3⟩ := at_of s1 rv p2
  obtain ⟨C', fs, rfl, p4⟩ := onIn_of p3
  obtain ⟨ec, p5⟩ := ifB_of p4
  have ec := beq_t.mp ec
  subst ec
  obtain ⟨dx, gs, fr, qh⟩ := x1
  cases eg : fget fs m with
  | some z => rw [eg] at p5; exact p5.elim
  | none =>
    rw [eg] at p5
    refine ⟨a, dx, gs, rfl, qh, fr.nope eg, ?_⟩
    refine ev.then s1 (rs.mono b1.1) p5 fun a2 h2 ρ2 H2 b2 s2 p6 => ?_
    obtain ⟨ws, rfl, p7⟩ := toL_of p6
    exact ⟨ws, rfl, fun vs rs' => ⟨ρ2, _, h2, n, s2, by rw [List.append_nil]; exact .cons (rv.mono b2.1) rs', p7⟩⟩
theorem tA_nil {Q : List V → Hp → Prop} (z : tA Pg cl E d [] σ H Q) : Q [] H := by
  obtain ⟨ρ1, τ1, h1, n1, s1, _, p1⟩ := z.step
  obtain ⟨ws, e, q⟩ := Post.now s1 (show Post cl ρ1 H E (.ok (.ws []) h1) (LP Q) from p1)
  cases e; exact q [] .nil
theorem Sim.other {ρ : List Addr} {h : Hs} {p : Addr} {u : HO} (s : Sim cl ρ h H) (e : H p = none) : Sim cl ρ h (upd H p u) where
  len := s.len
  nd := s.nd
  obj := fun n a hn => by
    obtain ⟨o, q, y⟩ := s.obj n a hn
    refine ⟨o, q, y.keep (List.prefix_refl _) ?_⟩
    obtain ⟨w, hw⟩ := y.som
    exact upd_ne (ne_of_none hw e)
  tb := s.tb.upd (by rw [e]; trivial)
theorem Bt.other {ρ : List Addr} {p : Addr} {u : HO} (e : H p = none) : Bt cl ρ H ρ (upd H p u) := ⟨List.prefix_refl _, fun b v q nb => by
  have q' : upd H p u b = some v := by rw [upd_ne (ne_of_none q e)]; exact q
  exact ⟨nb, fun _ => q', v, q'⟩⟩
theorem make_of {C f : Nat} {as : List Ev.X} {Q : VK} (x : tE Pg cl E d (.make C f as) σ H Q) : tMake (cl C) (spF Pg cl d f) [] E (tA Pg cl E d as) σ H Q := by
  obtain ⟨ρ, τ, h, n, s, rs, q⟩ := x.step
  refine ev.then s rs (show Post cl ρ H E ((evs Pg n d (.a as) τ h).bind fun a h => a.toL fun ws => (evs Pg n d (.call f (.ref h.n :: ws)) [] (h.push (.ins C []))).bind fun r h' => r.toW fun w => ifB (isNon w) (.ok (.w (.ref h.n)) h') .no) (VP Q) from q) fun a1 h1 ρ1 H1 b1 s1 p1 => ?_
  obtain ⟨ws, rfl, p2⟩ := toL_of p1
  refine ⟨ws, rfl, fun vs rv x dx hx hdx ne => ?_⟩
  have hx' : upd H1 dx (.own x) x = none := by rw [upd_ne (Ne.symm ne)]; exact hx
  have s2 : Sim cl (ρ1 ++ [x]) (h1.push (.ins C [])) (upd (upd H1 dx (.own x)) x (.ins (cl C) dx [])) := (s1.other hdx).push hx' ⟨dx, [], .nil, upd_same⟩
  have gx : (ρ1 ++ [x])[h1.n]? = some x := by rw [← s1.len, List.getElem?_append_right (Nat.le_refl _), Nat.sub_self]; rfl
  refine ⟨ρ1 ++ [x], .ref h1.n :: ws, _, n, s2, by rw [List.append_nil]; exact .cons (.ref gx) (rv.mono (List.prefix_append _ _)), ?_⟩
  refine (p2.later ((Bt.other hdx).trans (Bt.new hx'))).bind.mono fun a h3 ρ3 H3 b3 s3 p3 => ?_
  obtain ⟨w, rfl, p4⟩ := toW_of p3
  obtain ⟨en, p5⟩ := ifB_of p4
  refine ⟨w, rfl, fun v rv' => ⟨?_, Post.nowV s3 p5 (.ref (pre_get b3.1 gx))⟩⟩
  rw [isNon_eq rv'] at en
  exact of_decide_eq_true en
def spX (C : Addr) (c : List Nat) : Sp := fun vs H Q _ => ∃ e, vs = [.ref e] ∧ H e = some (XO e C none) ∧ ∀ dx, H dx = none → dx ≠ e → Q .non (upd (upd H dx (.xd [(nm wordT, .str ⟨c.toArray⟩)])) e (XO e C (some dx)))
theorem raise_of' {σ0 : L2.St} {C : Nat} {c : List Nat} {D : Ends} (x : tS Pg cl E d σ0 (.raise C c) D σ H) : sRaise (cl C) (spX (cl C) c) E tNil D σ H := by
  obtain ⟨ρ, τ, h, n, s, rs, ag, q⟩ := x.step
  have q : Post cl ρ H E (.ex C [(wordT, .str c)] h) (SPo σ0 D) := q
  refine ⟨Nat.zero_le _, fun e he => ⟨e, rfl, upd_same, fun dx hdx ne => ⟨rfl, some dx, upd_same, ?_⟩⟩⟩
  have hdx' : H dx = none := by rwa [upd_ne ne] at hdx
  have eq : (fun b => if b = e then none else upd (upd (upd H e (XO e (cl C) none)) dx (.xd [(nm wordT, .str ⟨c.toArray⟩)])) e (XO e (cl C) (some dx)) b) = upd H dx (.xd [(nm wordT, .str ⟨c.toArray⟩)]) := by
    funext b
    by_cases z : b = e
    · subst z
      show (if b = b then none else _) = _
      rw [if_pos rfl, upd_ne (Ne.symm ne), he]
    · show (if b = e then none else _) = _
      rw [if_neg z, upd_ne z]
      by_cases z2 : b = dx
      · subst z2; rw [upd_same, upd_same]
      · rw [upd_ne z2, upd_ne z2, upd_ne z]
  rw [eq]
  exact q ρ _ dx _ (Bt.other hdx') (s.other hdx') (.cons ⟨rfl, .str c⟩ .nil) (s.new hdx') upd_same
end
end Ev

set_option maxRecDepth 100000
set_option maxHeartbeats 4000000
namespace Ev
open PySem PySem.Spec PySem.SeqAt PyProof.Rows L2
section
variable {Pg : List Fn} {cl : Cn} {E : XK} {d : Nat} {X : Cx} {σ : L2.St} {H : Hp} {pins : List (Addr × Obj)} {s : Shared}
structure LamHd (cl : Cn) (X : Cx) (c : Addr) : Prop where
  on : cl.on = true
  code : X.env.code = .ref c
  hd : PySem.W.CodeHd X.base c cl.P
  bm : X.base.BuiltinsAt X.mg cl.P
  q : X.env.qual ++ "<lambda>" = cl.q
def LamH (cl : Cn) (H H1 : Hp) : Prop := H1 = H ∨ ∃ ps c', H cl.P ≠ none ∧ H c' = none ∧ H1 = upd (upd H cl.P (.tbl ps)) c' (.ext fun h => h.CodeRec (.ref c') cl.q)
theorem codeAmong_app {pos : Pos} : ∀ {l r : List Value} {cv : Value}, TriplesOk l → codeAmong pos (l ++ r) = some cv → codeAmong pos l = some cv ∨ codeAmong pos r = some cv := by
  intro l r cv ht h
  fun_induction TriplesOk l with
  | case1 => exact .inr h
  | case2 a t b u c rest ih =>
    simp only [List.cons_append, codeAmong] at h ⊢
    split at h
    · next z => rw [if_pos z]; exact .inl h
    · next z => rw [if_neg z]; exact ih ht h
  | case3 => exact ht.elim
theorem triples_app : ∀ {l r : List Value}, TriplesOk l → TriplesOk r → TriplesOk (l ++ r) := by
  intro l r ht h
  fun_induction TriplesOk l with
  | case1 => exact h
  | case2 a t b u c rest ih => simp only [List.cons_append, TriplesOk]; exact ih ht
  | case3 => exact ht.elim
theorem lam_ev {c : Addr} {params : Arguments} {body : Expr} {scope : Scope} {pos : Pos} (L : LamHd cl X c) (I : Inv X pins σ H s) (t : Tb cl H) (hdef : defaultsOf params X.env = ([], [])) (hfr : ∀ y ∈ scope.names, y.2 = .free → X.env.kindOf y.1 = some .cell ∨ X.env.kindOf y.1 = some .free) {Ee : Value → Shared → Prop} :
    wpAny (model X.prog X.w) X.A (eval (.Lambda params body scope pos) X.env) (fun u s1 => ∃ f c' pm ctv H1, u = .ref f ∧ LamH cl H H1 ∧ Inv X pins σ H1 s1 ∧ Tb cl H1 ∧ H1 f = none ∧ s.heap.objs.size ≤ f ∧ s1.heap.get? f = some (PySem.W.kla_obj "<lambda>" cl.q params body scope (cloF X.env.cells scope.names []) pm c' ctv) ∧ H1 c' = some (.ext fun h => h.CodeRec (.ref c') cl.q)) Ee s := by
  obtain ⟨ps, hP, htr, hcs⟩ := t L.on
  have hPo : s.heap.get? cl.P = some (PySem.W.tabObj ps) := I.hok _ _ hP
  have hcl : closureFor scope X.env = pure (cloF X.env.cells scope.names []) := closureFor_of fun y hy e => I.ok.has y.1 (hfr y hy e)
  have hg : s.heap.Ns mainGlobals X.mg := I.mod.glob.keeps I.bk
  have C := L.hd.keeps I.bk
  have hb : s.heap.BuiltinsAt X.mg cl.P := let ⟨bm, o, a1, a2, a3, a4, a5, a6⟩ := L.bm; ⟨bm, o, a1, a2, a3, a4, I.bk _ _ a5, a6⟩
  refine PySem.W.kla_eval hdef ?_
  rw [L.q]
  cases hf : codeAmong pos ps.toList with
  | some cv =>
    obtain ⟨c', rfl, hc'⟩ := hcs pos cv hf
    refine PySem.W.kla_makeFunctionHit hcl I.ok.glob hg L.code C hPo htr hf hb fun ctv h' tk hk hsz => ?_
    have hkk : ∀ b o, s.heap.get? b = some o → (h'.push (PySem.W.kla_obj "<lambda>" cl.q params body scope (cloF X.env.cells scope.names []) ((X.mg "__name__").getD .none) c' ctv)).get? b = some o := fun b o e => Heap.get?_push_of_some _ (hk b o e)
    refine ⟨h'.objs.size, c', _, ctv, H, rfl, .inl rfl, I.kept hkk, t, I.hok.fresh hsz, hsz, Heap.get?_push_size _ rfl, hc'⟩
  | none =>
    have hgP : mainGlobals ≠ cl.P := fun z => by
      obtain ⟨o, es, ep, e, hd, _⟩ := hg
      rw [z, hPo] at e; cases e; cases hd
    refine PySem.W.kla_makeFunction hcl I.ok.glob hg L.code C hPo htr hf hgP hb fun c' ctv h' tk hx hge hlt hrec htb => ?_
    have fc : H c' = none := I.hok.fresh hge
    have neP : ∀ {b : Addr}, H b = none → b ≠ cl.P := fun {b} e z => by rw [z, hP] at e; cases e
    have PneC : cl.P ≠ c' := Ne.symm (neP fc)
    generalize hfo : PySem.W.kla_obj "<lambda>" cl.q params body scope (cloF X.env.cells scope.names []) ((X.mg "__name__").getD .none) c' ctv = fo
    have kk : ∀ b o, b ≠ cl.P → s.heap.get? b = some o → (h'.push fo).get? b = some o := fun b o hb e => Heap.get?_push_of_some _ (hx b o hb e)
    have hP1 : (h'.push fo).get? cl.P = some (PySem.W.tabObj (ps ++ #[rawInt pos.line, rawInt pos.col, .ref c'])) := Heap.get?_push_of_some _ htb
    have hrec1 : (h'.push fo).CodeRec (.ref c') cl.q := hrec.push _
    have h1P : upd (upd H cl.P (.tbl (ps ++ #[rawInt pos.line, rawInt pos.col, .ref c']))) c' (.ext fun h => h.CodeRec (.ref c') cl.q) cl.P = some (.tbl (ps ++ #[rawInt pos.line, rawInt pos.col, .ref c'])) := by rw [upd_ne PneC, upd_same]
    have h1o : ∀ {b : Addr}, b ≠ cl.P → b ≠ c' → upd (upd H cl.P (.tbl (ps ++ #[rawInt pos.line, rawInt pos.col, .ref c']))) c' (.ext fun h => h.CodeRec (.ref c') cl.q) b = H b := fun {b} z1 z2 => by rw [upd_ne z2, upd_ne z1]
    have old : ∀ {b : Addr} {u : HO}, H b = some u → b ≠ c' := fun {b u} e z => by rw [z, fc] at e; cases e
    have ltc : ∀ {b : Addr} {o : Obj}, s.heap.get? b = some o → b ≠ c' := fun {b o} e z => by
      have := Heap.lt_size e
      rw [z] at this
      exact absurd this (Nat.not_lt.mpr hge)
    have hun : Un X.fs [] H (upd (upd H cl.P (.tbl (ps ++ #[rawInt pos.line, rawInt pos.col, .ref c']))) c' (.ext fun h => h.CodeRec (.ref c') cl.q)) s.heap (h'.push fo) := by
      refine ⟨fun b o e n _ _ => kk b o (neP n) e, fun b o e n _ _ => ⟨o.slots, kk b o (neP n) e⟩, fun b o e n _ => ?_, fun b o e _ => ?_, fun b xs e => ?_, fun b o u e => ?_, fun b qs e => ?_⟩
      · rw [h1o (neP n) (ltc e)]; exact n
      · by_cases z : b = cl.P
        · subst z; exact ⟨_, hP1⟩
        · exact ⟨o, kk b o z e⟩
      · rw [h1o (fun z => by rw [z, hP] at e; cases e) (old e)]; exact e
      · rw [h1o (fun z => by rw [z, hP] at e; cases e) (old e)]; exact e
      · by_cases z : b = cl.P
        · subst z; rw [hP] at e; cases e
          exact ⟨_, h1P⟩
        · exact ⟨#[], by rw [h1o z (old e), e]; simp⟩
    have hok : HOk X.prog X.w (upd (upd H cl.P (.tbl (ps ++ #[rawInt pos.line, rawInt pos.col, .ref c']))) c' (.ext fun h => h.CodeRec (.ref c') cl.q)) (h'.push fo) := fun a o e => by
      by_cases zc : a = c'
      · subst zc
        rw [upd_same] at e; cases e
        obtain ⟨c2, oc, vs, t2, e2, g2, r2⟩ := id hrec1
        cases e2
        refine ⟨hrec1, ⟨oc, g2⟩, fun h1 h2 φ st => ?_⟩
        obtain ⟨c2, oc, vs, t2, e2, g2, r2⟩ := φ
        cases e2
        exact ⟨_, oc, vs, t2, rfl, st _ g2, r2⟩
      · by_cases zP : a = cl.P
        · subst zP
          rw [h1P] at e; cases e
          exact hP1
        · rw [h1o zP zc] at e
          refine (I.hok a o e).stay (fun b u hb q => kk b u ?_ q) (fun b q => ?_) fun b xs q => ?_
          · rcases hb with rfl | hb
            · exact zP
            · intro z; rw [z, hP] at hb; cases hb
          · rw [h1o (fun z => by rw [z, hP] at q; cases q) (old q)]; exact q
          · rw [h1o (fun z => by rw [z, hP] at q; cases q) (old q)]; exact q
    have I1 := I.un (t' := tk) hun hok
    refine ⟨h'.objs.size, c', _, ctv, _, rfl, .inr ⟨_, c', by rw [hP]; simp, fc, rfl⟩, I1, fun _ => ⟨_, h1P, ?_, fun pos' cv e => ?_⟩, ?_, Nat.le_of_lt (Nat.lt_of_le_of_lt hge hlt), by rw [← hfo]; exact Heap.get?_push_size _ rfl, upd_same⟩
    · rw [Array.toList_append]; exact triples_app htr trivial
    · rw [Array.toList_append] at e
      rcases codeAmong_app htr e with e | e
      · obtain ⟨c2, e1, e2⟩ := hcs pos' cv e
        exact ⟨c2, e1, by rw [h1o (fun z => by rw [z, hP] at e2; cases e2) (old e2)]; exact e2⟩
      · have e : (if ((pos.line : Int) == pos'.line && (pos.col : Int) == pos'.col) = true then some (Value.ref c') else codeAmong pos' []) = some cv := e
        split at e
        · cases e; exact ⟨c', rfl, upd_same⟩
        · cases e
    · have : H h'.objs.size = none := I.hok.fresh (Nat.le_of_lt (Nat.lt_of_le_of_lt hge hlt))
      rw [h1o (neP this) (Nat.ne_of_gt hlt)]; exact this
end
end Ev

set_option maxRecDepth 100000
set_option maxHeartbeats 4000000
namespace Ev
open PySem PySem.Spec PySem.SeqAt PyProof.Rows L2
section
theorem fn_at {CX : CXT} {P : Program} {w : World} {K : PySem.W.Frag} {mg : Str → Option Value} {base : Heap} {k : Nat} {x qual : Str} {st : Stmt} {f : Addr} {fd : FuncData} {N ps : List Str} (F : Fun K x qual st f fd) (Sc : FnScope N ps (defScope st))
    {A : Around} {outer : List Env} {s : Shared} {H : Hp} {args : Args} {us : List Value} {vs : List V} {Q : VK} {E : XK} (hr : Room (k + 1) A) (e0 : Env0 P w K mg base A outer s H) (hb : BindsTo s fd args (ps.zip us)) (r : Vals vs us) (hl : vs.length = ps.length)
    (hbody : ∀ cdv : Value, Room k (A.deeper (envOfC qual (defScope st) s.heap.objs.size f cdv)) → ∃ t, PSs (cxOf CX P w K mg base N qual (defScope st) f cdv A outer s H E) (defBody st) t ∧ t { nx := fun _ H' => Q .non H', rt := Q } (L2.start N vs) H) :
    codeAny (model P w) A (.call (.ref f) args) (CR CX outer P w H s Q E) s := by
  obtain ⟨oc, od, kV, doc, pm, an, cdv, ct, osl, rfl, lk, hcd⟩ := F.ex
  have KX : K.In s.heap := e0.mod.kin.keeps fun b o e => (e0.bs b o e).1
  have lim : s.heap.NoLimit := e0.mod.nolimit.keeps fun b o e => (e0.bs b o e).1
  have hkind : ∀ y ∈ ps.zip us, (defScope st).names.lookup y.1 = some .local ∨ ((defScope st).names.lookup y.1 = some .cell ∧ ((cellsFrom (s.heap.objs.size + 1) (defScope st).names []).lookup y.1).isSome = true) := fun ⟨n, v⟩ hy => by
    rcases Sc.par n (List.of_mem_zip hy).1 with q | q
    · exact .inl q
    · exact .inr ⟨q, PySem.W.cellsFrom_some _ _ _ (.inl q)⟩
  refine codeAny_call_function hr.depth (KX _ _ lk) rfl Sc.co Sc.gen rfl (PySem.W.codeRec_of KX hcd) (hb _ _ _ _ ?_)
  refine wpAny_newFunctionEnv_cells Sc.kind hkind fun env he s1 x => ?_
  subst he
  refine ⟨lim.keeps x.toInCall.keep, codeAny_func ?_⟩
  obtain ⟨t, ht, hq⟩ := hbody cdv (hr.deeper _)
  have I : Inv (cxOf CX P w K mg base N qual (defScope st) f cdv A outer s H E) [] (L2.start N vs) H s1 := inv_start Sc hr.hd e0 hl r x
  refine wpAny_mono (ht [] s1 (L2.start N vs) H _ I hq) (fun fl s' hs => ?_) fun e s' hs => hs
  have fin : ∀ {σ' : L2.St} {H' : Hp} {v : V} {u : Value}, Inv (cxOf CX P w K mg base N qual (defScope st) f cdv A outer s H E) [] σ' H' s' → RelV v u → Q v H' → CE outer P w H s Q u s' :=
    fun {σ' H' v u} J rv q => ⟨v, H', J.os, J.bare, J.base, J.hok, rv, q⟩
  cases fl with
  | ret u =>
    obtain ⟨v, σ', H', J, rv, q⟩ := hs
    exact fin J rv q
  | next =>
    obtain ⟨σ', H', J, q⟩ := hs
    exact fin (v := V.non) (u := Value.none) J rfl q
  | brk =>
    obtain ⟨_, _, _, q⟩ := hs
    exact False.elim q
  | cont =>
    obtain ⟨_, _, _, q⟩ := hs
    exact False.elim q
variable {Pg : List Fn} {cl : Cn} {E : XK} {d : Nat} {X : Cx} {σ : L2.St} {H : Hp} {pins : List (Addr × Obj)} {s : Shared}
def lamX (X : Cx) (N' : List Str) (sc : Scope) (q : Str) (f c' : Addr) (clos : List (Str × Addr)) (s : Shared) (H : Hp) (E : XK) : Cx where
  prog := X.prog
  w := X.w
  K := X.K
  mg := X.mg
  base := X.base
  A := X.A.deeper (PySem.W.envX q sc s.heap.objs.size f (.ref c') clos)
  N := N'
  s₀ := s
  H₀ := H
  env := PySem.W.envX q sc s.heap.objs.size f (.ref c') clos
  outer := X.stack
  stack := PySem.W.envX q sc s.heap.objs.size f (.ref c') clos :: X.stack
  ex := []
  calm := true
  fn := fun _ => false
  pn := []
  xe := fun e s' => wpAny (model X.prog X.w) (X.A.deeper (PySem.W.envX q sc s.heap.objs.size f (.ref c') clos)) (leaving (PySem.W.envX q sc s.heap.objs.size f (.ref c') clos) e) (fun _ s'' => CXE X.prog X.w X.stack H s E e s'') (fun e' s'' => CXE X.prog X.w X.stack H s E e' s'')  s'
def Cells (N' : List Str) (clos : List (Str × Addr)) (σY : L2.St) (h : Heap) : Prop := ∀ (i : Nat) (x : Str) (v : V), N'[i]? = some x → σY[i]? = some (some v) → ∃ u c, RelV v u ∧ clos.lookup x = some c ∧ h.IsCell c (some u)
structure LamSc (N' : List Str) (sc : Scope) : Prop where
  kind : sc.kind = .function
  co : sc.isCoroutine = false
  gen : sc.isGenerator = false
  free : ∀ y ∈ sc.names, y.2 ≠ .cell
  isf : ∀ x ∈ N', sc.names.lookup x = some .free
theorem lam_call {N' : List Str} {params : Arguments} {body : Expr} {sc : Scope} {q : Str} {f c' : Addr} {clos : List (Str × Addr)} {pm ctv : Value} {σY : L2.St} {t : TE} {Q : VK} (S : LamSc N' sc) (I : Inv X pins σ H s) (hc : X.calm = true) (hroom : X.A.depth < recursionLimit)
    (ho : s.heap.get? f = some (PySem.W.kla_obj "<lambda>" q params body sc clos pm c' ctv)) (hcd : s.heap.CodeRec (.ref c') q) (hbind : bindArgs (PySem.W.kla_fn "<lambda>" q params body sc clos pm (.ref c') ctv) ⟨[], []⟩ = pure [])
    (hinj : ∀ x y c, clos.lookup x = some c → clos.lookup y = some c → x = y) (hhas : ∀ x, sc.names.lookup x = some .free → ∃ c, clos.lookup x = some c) (hcell : ∀ x c, clos.lookup x = some c → (∃ v, s.heap.IsCell c v) ∧ H c = none) (hcs : Cells N' clos σY s.heap) (hlen : σY.length = N'.length)
    (hp : PE (lamX X N' sc q f c' clos s H E) body t) (h : t σY H Q) : codeAny (model X.prog X.w) X.A (.call (.ref f) ⟨[], []⟩) (CR (CXE X.prog X.w) X.stack X.prog X.w H s Q E) s := by
  refine PySem.W.kla_callFunE hroom ho rfl S.co S.gen rfl hcd ?_
  rw [hbind]
  refine wpAny_pure (wpAny_newFunctionEnv S.free (by intro y hy; simp at hy) (fun h₁ hns hsb => ⟨I.nolimit.fresh _ hsb, ?_⟩) S.kind)
  show codeAny _ _ (.expr body (PySem.W.envX q sc s.heap.objs.size f (.ref c') clos)) _ _
  have hk₁ : ∀ b o, s.heap.get? b = some o → h₁.get? b = some o := fun b o e => hsb.extBut b o (Nat.ne_of_lt (Heap.lt_size e)) (Heap.get?_push_of_some _ e)
  have noA : ∀ b : Addr, b ∉ (lamX X N' sc q f c' clos s H E).ex := fun b z => absurd (show b ∈ ([] : List Addr) from z) (by simp)
  have fresh : H s.heap.objs.size = none := I.hok.fresh (Nat.le_refl _)
  have IY : Inv (lamX X N' sc q f c' clos s H E) [] σY H { s with heap := h₁, toks := s.toks + ([] : List (Str × Value)).length } := by
    refine ⟨⟨I.ok.mod, S.kind, rfl, rfl, Nat.le_refl _, hinj, fun x hx => ?_, fun x c z => absurd (show false = true from z) (by decide), fun _ => I.ok.hd hc, Around.frames_deeper I.ok.frames, .inr ⟨rfl, rfl⟩, fun b z => absurd z (noA b), I.bs, Nat.le_trans I.ok.bsz I.sz, fun b _ _ => noA b, fun b z => absurd z (noA b), I.stack, I.stkFree⟩,
      rfl, I.bare, Un.kept hk₁, ⟨_, hns, fun i x v h1 h2 h3 => ?_⟩, fun x c e => ?_, fresh, fun x c e => (hcell x c e).2, fun p hp => absurd (show p ∈ ([] : List (Addr × Obj)) from hp) (by simp), I.hok.kept hk₁, hlen⟩
    · have hx : sc.names.lookup x = some .cell ∨ sc.names.lookup x = some .free := hx
      rcases hx with z | z
      · exact absurd rfl (S.free _ (PySem.mem_of_lookup z))
      · exact hhas x z
    · obtain ⟨u, c, ru, ec, hc'⟩ := hcs i x v h1 h2
      refine ⟨u, ru, .inr ⟨.inr (S.isf x (List.mem_of_getElem? h1)), c, ec, ?_⟩⟩
      obtain ⟨o, ho', hd⟩ := hc'
      exact ⟨o, hk₁ _ _ ho', hd⟩
    · obtain ⟨⟨v, o, ho', hd⟩, _⟩ := hcell x c e
      exact ⟨v, o, hk₁ _ _ ho', hd⟩
  refine PySem.W.kla_codeExpr (wpAny_mono (hp [] _ σY H Q IY h) (fun v s' ⟨x, H', J, rv, q⟩ => ?_) fun e s' z => z)
  exact ⟨x, H', J.os, J.bare, J.base, J.hok, rv, q⟩
theorem Own.lam {N' : List Str} {sc : Scope} {q : Str} {f c' : Addr} {clos : List (Str × Addr)} : Own (lamX X N' sc q f c' clos s H E) := ⟨rfl, rfl, rfl⟩
def tAsk (i : Nat) (f c' : Addr) (q : Str) (σY : L2.St) (t : TE) : TE := fun σ H Q => σ[i]? = some (some (.ref f)) ∧ H c' = some (.ext fun h => h.CodeRec (.ref c') q) ∧ t σY H Q
theorem pe_asked {i : Nat} {x : Str} {p pos : Pos} {N' : List Str} {params : Arguments} {body : Expr} {sc : Scope} {q : Str} {f c' : Addr} {clos : List (Str × Addr)} {pm ctv : Value} {σY : L2.St} {t : TE} (S : LamSc N' sc) (hc : X.calm = true) (hroom : X.A.depth < recursionLimit) (hx : Passes (CXE X.prog X.w) X E) (hex : X.ex = [])
    (ho : X.s₀.heap.get? f = some (PySem.W.kla_obj "<lambda>" q params body sc clos pm c' ctv)) (fn : X.H₀ f = none) (ff : f ∉ X.fs) (hbind : bindArgs (PySem.W.kla_fn "<lambda>" q params body sc clos pm (.ref c') ctv) ⟨[], []⟩ = pure [])
    (hinj : ∀ x y c, clos.lookup x = some c → clos.lookup y = some c → x = y) (hhas : ∀ x, sc.names.lookup x = some .free → ∃ c, clos.lookup x = some c) (hcell : ∀ x c, clos.lookup x = some c → (∃ v, X.s₀.heap.IsCell c v) ∧ X.H₀ c = none ∧ c ∉ X.fs) (hcs : Cells N' clos σY X.s₀.heap) (hlen : σY.length = N'.length)
    (hp : ∀ s H, PE (lamX X N' sc q f c' clos s H E) body t) (hN : X.N[i]? = some x) (hv : Vis X.env.scope x) (hd : (x == ("__debug__" : Str)) = false := by decide) (hcd : (x == ("__classdict__" : Str)) = false := by decide) :
    PE X (.Call (.Name x p) [] [] pos) (tAsk i f c' q σY t) := by
  intro pins s σ H Q I h
  obtain ⟨hσ, hC, ht⟩ := h
  have keep : ∀ b o, X.s₀.heap.get? b = some o → X.H₀ b = none → b ∉ X.fs → s.heap.get? b = some o := fun b o e n nf => I.base.keep b o e n nf (by rw [hex]; simp)
  have hcellK : ∀ x c v, clos.lookup x = some c → X.s₀.heap.IsCell c v → s.heap.IsCell c v := fun x c v e ⟨o, e1, e2⟩ => ⟨o, keep c o e1 (hcell x c e).2.1 (hcell x c e).2.2, e2⟩
  refine wpAny_Call_Name_kw (thn (pe_var (X := X) (i := i) hN hv hd hcd pins s σ H (fun y H1 => y = .ref f ∧ H1 = H) I ⟨.ref f, hσ, rfl, rfl⟩) fun u s1 ⟨y, H1, I1, ry, ey, eH⟩ => ?_)
  subst ey eH
  obtain rfl : u = Value.ref f := ry
  have keep : ∀ b o, X.s₀.heap.get? b = some o → X.H₀ b = none → b ∉ X.fs → s1.heap.get? b = some o := fun b o e n nf => I1.base.keep b o e n nf (by rw [hex]; simp)
  have hcellK : ∀ x c v, clos.lookup x = some c → X.s₀.heap.IsCell c v → s1.heap.IsCell c v := fun x c v e ⟨o, e1, e2⟩ => ⟨o, keep c o e1 (hcell x c e).2.1 (hcell x c e).2.2, e2⟩
  have ho1 := keep f _ ho fn ff
  refine PySem.W.callWith_F0 ⟨_, _, _, _, ho1⟩ ?_
  refine wpAny_call (codeAny_mono (lam_call S I1 hc hroom ho1 (I1.hok _ _ hC).1 hbind hinj hhas (fun x c e => ?_) (fun i x v h1 h2 => ?_) hlen (hp s1 H1) ht) fun r s' hq => ?_)
  · obtain ⟨⟨v, hv'⟩, n, nf⟩ := hcell x c e
    refine ⟨⟨v, hcellK x c v e hv'⟩, ?_⟩
    obtain ⟨o, e1, _⟩ := hv'
    exact I1.base.free c o e1 n (by rw [hex]; simp)
  · obtain ⟨u, c, ru, ec, hcc⟩ := hcs i x v h1 h2
    exact ⟨u, c, ru, ec, hcellK x c _ ec hcc⟩
  · cases r with
    | error e => exact hx pins σ H1 s1 e s' I1 hq
    | ok fl =>
      cases fl with
      | ret u => exact I1.after hq
      | next => exact False.elim hq
      | brk => exact False.elim hq
      | cont => exact False.elim hq
theorem LamH.sim {H1 : Hp} {ρ : List Addr} {h : Hs} (l : LamH cl H H1) (on : cl.on = true) (t : Tb cl H1) (s : Sim cl ρ h H) : Sim cl ρ h H1 ∧ Bt cl ρ H ρ H1 := by
  rcases l with rfl | ⟨ps, c', hP, hc, rfl⟩
  · exact ⟨s, Bt.refl⟩
  · obtain ⟨qs, hQ, _⟩ := s.tb on
    have PneC : cl.P ≠ c' := fun z => by rw [z, hc] at hQ; cases hQ
    have eq : ∀ {a : Addr} {o : O}, OA cl ρ H a o → upd (upd H cl.P (.tbl ps)) c' (.ext fun h => h.CodeRec (.ref c') cl.q) a = H a := fun {a o} x => by
      have n1 : a ≠ c' := fun z => by
        obtain ⟨u, hu⟩ := x.som
        rw [z, hc] at hu; cases hu
      have n2 : a ≠ cl.P := fun z => by
        have := x.pl
        rw [z, hQ] at this; exact this
      rw [upd_ne n1, upd_ne n2]
    refine ⟨⟨s.len, s.nd, fun n a e => ?_, t⟩, List.prefix_refl _, fun b u q nb => ?_⟩
    · obtain ⟨o, ho, x⟩ := s.obj n a e
      exact ⟨o, ho, x.keep (List.prefix_refl _) (eq x)⟩
    · have n1 : b ≠ c' := ne_of_none q hc
      refine ⟨nb, fun z => by rw [upd_ne n1, upd_ne (z on)]; exact q, ?_⟩
      by_cases z : b = cl.P
      · subst z; exact ⟨_, by rw [upd_ne PneC, upd_same]⟩
      · exact ⟨u, by rw [upd_ne n1, upd_ne z]; exact q⟩
end
end Ev

set_option maxRecDepth 100000
set_option maxHeartbeats 4000000
namespace Ev
open PySem PySem.Spec PySem.SeqAt PyProof.Rows L2
section
variable {Pg : List Fn} {cl : Cn} {E : XK} {d : Nat} {X : Cx} {σ : L2.St} {H : Hp} {pins : List (Addr × Obj)} {s : Shared}
abbrev toldX (X : Cx) (NT : List Str) (tn : Str) (st : Stmt) (ft : Addr) (cdv : Value) (s1 : Shared) (H1 : Hp) (E2 : XK) (E' : Value → Shared → Prop) (pn : List (Addr × Obj)) : Cx :=
  withX (cxOf (CXE X.prog X.w) X.prog X.w X.K X.mg X.base NT tn (defScope st) ft cdv X.A X.stack s1 H1 E2) E' pn
theorem two_line : (2 : Nat) ≤ sizeLine := by rw [line_eq]; decide
theorem cells_frs (I : Inv X pins σ H s) (hfn : ∀ x, X.fn x = true) {x : Str} {c : Addr} (e : X.env.cells.lookup x = some c) : c ∉ frs X.stack := fun z => by
  rcases List.mem_cons.mp (I.stkSub c z) with z | z
  · exact I.cne x c e z
  · obtain ⟨_, o, ho, _⟩ := I.ok.funs.mem z
    exact absurd (Heap.lt_size ho) (Nat.not_lt.mpr (I.ok.cab x c (hfn x) e))
theorem de_told {k nx : Nat} {c S ft : Addr} {fdT : FuncData} {st : Stmt} {NT N' : List Str} {tn an en cx : Str} {idx : List Nat} {params : Arguments} {body : Expr} {sc : Scope} {a : Ev.X} {lpos p pos : Pos} {t1 t2 w1 w2 : Str}
    {q1 q2 q3 q4 q5 q6 q7 q8 q9 q10 q11 q12 q13 : Pos} {j1 j2} {x1 x2}
    (L : LamHd cl X c) (hfn : ∀ x, X.fn x = true) (hr : Room (k + 1) X.A) (Ft : Fun X.K tn tn st ft fdT) (ScT : FnScope [an, en] [an] (defScope st)) (bT : Binds X.K fdT [an] []) (hg : Gl X tn) (mgT : X.mg tn = some (.ref ft)) (kpT : PySem.W.keepIn X.K (.ref ft) = true)
    (hst : defBody st = [.Try [.Return (some (.Tuple [.Constant (.str t1) j1 q1, .Call (.Name an q2) [] [] q3] x1 q4)) q5] [.ExceptHandler (some (.Name cx q6)) (some en) [.Return (some (.Tuple [.Constant (.str t2) j2 q7, .Attribute (.Name en q8) w1 q9] x2 q10)) q11] q12] [] [] q13])
    (h1 : t1 = nm toldT) (h2 : t2 = nm noT) (h3 : w1 = nm wordT) (hen : (defScope st).names.lookup en = some .local) (han : Vis (defScope st) an) (hgS : (defScope st).names.lookup cx = some .globalImplicit) (mgS : X.mg cx = some (.ref S)) (cS : XCls X.K S) (hcx : (cx == ("__debug__" : Str)) = false)
    (hd1 : (an == ("__debug__" : Str)) = false) (hd2 : (an == ("__classdict__" : Str)) = false) (hd3 : (en == ("__debug__" : Str)) = false) (hd4 : (en == ("__classdict__" : Str)) = false)
    (hX : ∀ C, C < nx → XCls X.K (cl C) ∧ XSub X.K (cl C) S ∧ NoAttr X.K (cl C) w1)
    (B : BlkOk X N' sc 0 idx) (hco : sc.isCoroutine = false) (hgen : sc.isGenerator = false) (hdef : defaultsOf params X.env = ([], [])) (hbind : ∀ q clos pm c' ctv, bindArgs (PySem.W.kla_fn "<lambda>" q params body sc clos pm (.ref c') ctv) ⟨[], []⟩ = pure [])
    (hp : ∀ cdv s1 H1 E2 E' pn f c' clos s H E3, PE (lamX (toldX X [an, en] tn st ft cdv s1 H1 E2 E' pn) N' sc cl.q f c' clos s H E3) body (tE Pg cl E3 d a))
    (hdb : (tn == ("__debug__" : Str)) = false := by decide) (he : starEach [Expr.Lambda params body sc lpos] X.env = (false, eval (.Lambda params body sc lpos) X.env) :: starEach [] X.env := by rfl) (hpl : (backTo pos (starEach [] X.env)).any (·.1) = false := by rfl) :
    PE X (.Call (.Name tn p) [.Lambda params body sc lpos] [] pos) (tE Pg cl E (d + 2) (.told nx idx a)) := by
  subst h1 h2 h3
  intro pins s σ H Q I h
  obtain ⟨ρ, τ, hh, n, sm, rs, pz⟩ := h.step
  have pz : Post cl ρ H E (R.rec (motive := fun _ => R A) (fun r h => r.toW fun w => ofW (.alloc h (.tup [.str toldT, w]))) (fun C fs h => ifB (Nat.ble (C + 1) nx) (Opt (fget fs wordT) fun w => ofW (.alloc h (.tup [.str noT, w]))) .no) .no (evs Pg n d (.x a) (blkS 0 idx τ) hh)) (VP Q) := pz
  have hfr : ∀ y ∈ sc.names, y.2 = .free → X.env.kindOf y.1 = some .cell ∨ X.env.kindOf y.1 = some .free := B.fr
  refine wpAny_Call_Name_kw (ld_glob I hg mgT ?_ hdb)
  refine PySem.W.callWith_K (h₀ := X.base) I.ok.mod.kin kpT ?_ he hpl
  rw [he]
  show wpAny _ _ (spliced ((false, eval (.Lambda params body sc lpos) X.env) :: backTo pos (starEach [] X.env))) _ _ s
  refine Calls.spliced_cons (thn (lam_ev L I sm.tb hdef hfr) fun u s1 ⟨f, c', pm, ctv, H1, eu, lh, I1, t1, fn, fge, fo, hC⟩ => ?_)
  subst eu
  refine Calls.spliced_nil ⟨I1.kIn, ?_⟩
  obtain ⟨sm1, bt1⟩ := lh.sim L.on t1 sm
  have hcl : ∀ y ∈ sc.names, y.2 = .free → ∃ c, X.env.cells.lookup y.1 = some c := fun y hy e => I1.ok.has y.1 (hfr y hy e)
  have sub : ∀ x c, (cloF X.env.cells sc.names []).lookup x = some c → X.env.cells.lookup x = some c := fun x c h => by
    rcases cloF_sub hcl h with z | z
    · exact z
    · simp at z
  have Slam : LamSc N' sc := ⟨B.kind, hco, hgen, B.nocell, fun x hx => by
    obtain ⟨i, hi⟩ := List.getElem?_of_mem hx
    have hlt : i < idx.length := by
      have := (List.getElem?_eq_some_iff.mp hi).1
      have := B.len
      omega
    obtain ⟨j, hj⟩ : ∃ j, idx[i]? = some j := ⟨idx[i], by simp [hlt]⟩
    refine (B.ix (j, x) (List.mem_of_getElem? (i := i) ?_)).2
    rw [List.drop_zero, List.getElem?_zip_eq_some]
    exact ⟨hj, hi⟩⟩
  have ffs : f ∉ frs X.stack := fun z => by
    obtain ⟨_, o', ho', _⟩ := I.stack.mem z
    exact absurd (Heap.lt_size ho') (Nat.not_lt.mpr fge)
  have hcs : Cells N' (cloF X.env.cells sc.names []) (sgb 0 idx σ) s1.heap := fun i x v h1 h2 => by
    unfold sgb at h2
    rw [List.replicate_zero, List.nil_append, List.getElem?_map] at h2
    cases ej : idx[i]? with
    | none => rw [ej] at h2; cases h2
    | some j =>
      rw [ej] at h2
      have h2' : (σ[j]?).getD none = some v := by simpa using h2
      have hz : (j, x) ∈ idx.zip (N'.drop 0) := by
        refine List.mem_of_getElem? (i := i) ?_
        rw [List.drop_zero, List.getElem?_zip_eq_some]
        exact ⟨ej, h1⟩
      obtain ⟨q1, q2⟩ := B.ix _ hz
      have hs : σ[j]? = some (some v) := by
        cases e : σ[j]? with
        | none => rw [e] at h2'; cases h2'
        | some o => rw [e] at h2'; exact congrArg some h2'
      have hkx := B.fr (x, .free) (mem_of_lookup' q2) rfl
      obtain ⟨mX, _, hl⟩ := I1.loc
      obtain ⟨u, ru, lk⟩ := hl j x v q1 hs (by
        rcases hkx with z | z
        · exact .inr (.inl z)
        · exact .inr (.inr z))
      rcases lk with ⟨z, _⟩ | ⟨_, c, hc, hcell⟩
      · exfalso
        rcases hkx with y | y
        · rw [z] at y; cases y
        · rw [z] at y; cases y
      · exact ⟨u, c, ru, cloF_of hc (.inl (mem_of_lookup' q2)), hcell⟩
  have hlen : (sgb 0 idx σ).length = N'.length := by
    unfold sgb
    rw [List.replicate_zero, List.nil_append, List.length_map, ← B.len, Nat.zero_add]
  refine wpAny_call (codeAny_mono (fn_at (CX := CXE X.prog X.w) (Q := Q) (E := E0) (us := [.ref f]) (vs := [.ref f]) Ft ScT hr I1.env0 (bT s1 [.ref f] I1.kIn rfl) (.cons rfl .nil) rfl fun cdv hr2 => ?_) fun r s' hq => ?_)
  · rw [hst]
    have O2 : Own (cxOf (CXE X.prog X.w) X.prog X.w X.K X.mg X.base [an, en] tn (defScope st) ft cdv X.A X.stack s1 H1 E0) := ⟨rfl, rfl, rfl⟩
    refine ⟨_, pss_one (ps_try (i := 1) O2 ScT.nd rfl hen hgS mgS cS (fun e oe => pss_one (ps_ret (pe_tup (pa_cons pe_str (pa_cons (pe_xfld (i := 1) rfl (Or.inl hen) rfl hd3 hd4) pa_nil)))))
      (fun E' pn E2 hpass => pss_one (ps_ret (pe_tup (pa_cons pe_str (pa_cons (pe_asked (i := 0) (E := E2) (σY := sgb 0 idx σ) (t := tE Pg cl E2 d a) Slam rfl hr2.depth hpass rfl fo fn ffs (hbind _ _ _ _ _)
        (fun x y c h1 h2 => I1.ok.inj x y c (sub x c h1) (sub y c h2)) (fun x hx => ?_) (fun x c e => ⟨I1.cell x c (sub x c e), I1.freeC x c (sub x c e), cells_frs I1 hfn (sub x c e)⟩) hcs hlen (fun s H => hp _ _ _ _ _ _ _ _ _ _ _ _) rfl han hd1 hd2) pa_nil))))) hcx), ?_⟩
    · obtain ⟨c, hc⟩ := hcl (x, .free) (mem_of_lookup' hx) rfl
      exact ⟨c, cloF_of hc (.inl (mem_of_lookup' hx))⟩
    refine ⟨rfl, hC, ρ, blkS 0 idx τ, hh, n, sm1, blk_rs rs 0 idx, ?_⟩
    cases er : evs Pg n d (.x a) (blkS 0 idx τ) hh with
    | no => rw [er] at pz; exact pz.elim
    | ok r0 h3 =>
      rw [er] at pz
      obtain ⟨w, rfl, p2⟩ := toW_of (show Post cl ρ H E (r0.toW fun w => ofW (.alloc h3 (.tup [.str toldT, w]))) (VP Q) from pz)
      intro ρ' H' b' s'
      refine ⟨w, rfl, fun v rv => ⟨two_line, fun p hp => ?_⟩⟩
      exact Post.newT s' (p2.later (bt1.trans b')) hp (.cons (.str toldT) (.cons rv .nil))
    | ex C fs h3 =>
      rw [er] at pz
      obtain ⟨cC, p2⟩ := ifB_of (show Post cl ρ H E (ifB (Nat.ble (C + 1) nx) (Opt (fget fs wordT) fun w => ofW (.alloc h3 (.tup [.str noT, w]))) .no) (VP Q) from pz)
      obtain ⟨w, ew, p3⟩ := Opt_of p2
      rw [ble_eq] at cC
      obtain ⟨k1, k2, k3⟩ := hX C (of_decide_eq_true cC)
      intro ρ' H' dx gs b' s' fr nd hx
      refine ⟨cl C, rfl, k1, k2, fun e oe e1 e2 ⟨vs, e3⟩ hn => ?_⟩
      obtain ⟨v, ev, rv⟩ := fr.get ew
      refine ⟨rfl, cl C, dx, gs, v, e1, e2, ⟨vs, e3⟩, k1, k3, hx, ev, two_line, fun p hp => ?_⟩
      exact Post.newT s' (p3.later (bt1.trans b')) hp (.cons (.str noT) (.cons rv .nil))
  · cases r with
    | error e => exact (cxe_none hq).elim
    | ok fl =>
      cases fl with
      | ret u => exact I1.after hq
      | next => exact False.elim hq
      | brk => exact False.elim hq
      | cont => exact False.elim hq
end
end Ev

set_option maxRecDepth 100000
set_option maxHeartbeats 4000000
namespace Ev
open PySem PySem.Spec PySem.SeqAt PyProof.Rows L2
def OnlyT (P : Addr) (H : Hp) : Prop := H P = some (.tbl #[]) ∧ ∀ b, b ≠ P → H b = none ∨ ∃ o xs, H b = some (.frz o (.lst xs))
theorem law_callT {P : Program} {w : World} {K : PySem.W.Frag} {mg mb : Str → Option Value} {CX : CXT} {k : Nat} {fa a T c : Addr} {fd : FuncData} {x : Str} {sp : Sp} {s₁ : Shared} {vs : List Value} {ns : List Int}
    (KX : K.In s₁.heap) (hns : s₁.heap.Ns mainGlobals mg) (hb : s₁.heap.Ns builtinsNs mb) (hbb : ∀ x : Str, x ≠ "__name__" → mb x = bootBuiltins x) (hlim : s₁.heap.NoLimit) (hg : s₁.gens = #[])
    (ha : s₁.heap.get? a = some { cls := .type "list", data := .seq vs.toArray }) (hi : IntsAre vs ns) (hl : ns.length ≤ sizeLine) (hr : Room k callerA)
    (hT : s₁.heap.get? T = some (PySem.W.tabObj #[])) (hKT : K.lookup T = none) (hcT : PySem.W.codeHdIn K c T = true) (hbm : s₁.heap.BuiltinsAt mg T)
    (F : ∀ base : Heap, K.In base → base.Ns mainGlobals mg → base.BuiltinsAt mg T → FnOk P w K mg base CX k fa fd [x] sp) (hbind : ∀ (s : Shared) (u : Value), BindsTo s fd ⟨[u], []⟩ [(x, u)])
    (hsp : ∀ H : Hp, OnlyT T H → SqL K H a (ns.map V.int) → sp [.ref a] H (fun v _ => v = .bl true) fun _ _ _ => False)
    (hCX : ∀ H e s', CX [] H s₁ (fun _ _ _ => False) e s' → False) :
    codeAny (model P w) callerA (.call (.ref fa) ⟨[.ref a], []⟩) (fun r s' => r = .ok (.ret (.bool true)) ∧ OldK s₁.heap s'.heap ∧ s'.os = s₁.os ∧ AllBare s'.gens) s₁ := by
  have rv := vals_ints hi
  have lenV := hi.length
  have aT : a ≠ T := fun z => by rw [z, hT] at ha; cases ha
  have core : ∀ H : Hp, OnlyT T H → SqL K H a (ns.map V.int) → HOk P w H s₁.heap → (∀ b, H b ≠ none → b = a ∨ b = T) → (H a ≠ none → K.lookup a = none) →
      codeAny (model P w) callerA (.call (.ref fa) ⟨[.ref a], []⟩) (fun r s' => r = .ok (.ret (.bool true)) ∧ OldK s₁.heap s'.heap ∧ s'.os = s₁.os ∧ AllBare s'.gens) s₁ := by
    intro H hO hS hok hA hK
    have base_of : ∀ {b : Addr} {o : Obj}, s₁.heap.get? b = some o → H b = none → (hidT s₁.heap H).get? b = some o := fun e n => hidT_get e n
    have noA : ∀ {b : Addr} {o : Obj}, s₁.heap.get? b = some o → (∀ vs n, o.data ≠ .seq vs n) → (∀ vs, o.data ≠ .fields vs) → H b = none := fun {b o} e d1 d2 => by
      cases q : H b with
      | none => rfl
      | some u =>
        rcases hA b (by rw [q]; simp) with e' | e'
        · subst e'; rw [ha] at e; cases e; exact absurd rfl (d1 _ _)
        · subst e'; rw [hT] at e; cases e; exact absurd rfl (d2 _)
    have nsK : ∀ {b : Addr} {m : Str → Option Value}, s₁.heap.Ns b m → (hidT s₁.heap H).Ns b m := fun {b m} ⟨o, es, ep, e, d, r⟩ => ⟨o, es, ep, base_of e (noA e (fun _ _ z => by rw [d] at z; cases z) fun _ z => by rw [d] at z; cases z), d, r⟩
    have hKb : K.In (hidT s₁.heap H) := fun b o e => base_of (KX b o e) (by
      cases q : H b with
      | none => rfl
      | some u =>
        rcases hA b (by rw [q]; simp) with e' | e'
        · subst e'
          rw [hK (by rw [q]; simp)] at e; cases e
        · subst e'
          rw [hKT] at e; cases e)
    have hbm' : (hidT s₁.heap H).BuiltinsAt mg T := let ⟨bm, o, a1, a2, a3, a4, a5, a6, a7, a8⟩ := hbm
      ⟨bm, o, a1, a2, a3, a4, base_of a5 (noA a5 (fun _ _ z => by rw [a8] at z; cases z) fun _ z => by rw [a8] at z; cases z), a6, a7, a8⟩
    have hM : Mod K mg (hidT s₁.heap H) := ⟨hKb, nsK hns, ⟨mb, nsK hb, hbb⟩, let ⟨mc, h1, h2⟩ := hlim; ⟨mc, nsK h1, h2⟩⟩
    have e0 : Env0 P w K mg (hidT s₁.heap H) callerA [] s₁ H := ⟨rfl, hM, fun b o e => of_hidT e, Nat.le_of_eq (hidT_size _ _), trivial, fun b hb => absurd (show b ∈ ([] : List Addr) from hb) (by simp), hok, .of_eq hg⟩
    refine codeAny_mono ((F _ hKb (nsK hns) hbm').run callerA [] s₁ H ⟨[.ref a], []⟩ [.ref a] [.ref a] _ _ hr e0 (hbind s₁ (.ref a)) (.cons rfl .nil) (hsp H hO hS)) fun r s' h => ?_
    cases r with
    | error e => exact (hCX H e s' h).elim
    | ok fl =>
      cases fl with
      | next => exact False.elim h
      | brk => exact False.elim h
      | cont => exact False.elim h
      | ret u =>
        obtain ⟨v, H', os, bare, un, hok', r', q⟩ := h
        have q' : v = .bl true := q
        subst q'
        obtain rfl : u = Value.bool true := r'
        obtain ⟨ps, hP'⟩ := un.tbls T #[] hO.1
        have hTs : s'.heap.get? T = some (PySem.W.tabObj (#[] ++ ps)) := hok' T _ hP'
        have keep : ∀ b o, b ≠ T → s₁.heap.get? b = some o → s'.heap.get? b = some o := fun b o hb e => by
          cases q : H b with
          | none => exact un.keep b o e q (by intro z; exact absurd (show b ∈ ([] : List Addr) from z) (by simp)) (by simp)
          | some u =>
            rcases hO.2 b hb with z | ⟨ob, xs, z⟩
            · rw [q] at z; cases z
            · have z2 := un.frzs b ob _ z
              obtain ⟨e1, _⟩ := hok b _ z
              obtain ⟨e2, _⟩ := hok' b _ z2
              rw [e] at e1; cases e1
              exact e2
        have hd := PySem.W.codeHd_of_K KX hcT
        refine ⟨rfl, ⟨fun b o e => ?_, fun b o e => ?_⟩, os, bare⟩
        · by_cases hb : b = T
          · subst hb
            rw [hT] at e; cases e
            exact .inr (.inl ⟨(hd.tab hT).isCodeTable, rfl, #[], ps, rfl, hTs⟩)
          · exact .inl (keep b o hb e)
        · by_cases hb : b = T
          · subst hb; exact ⟨_, hTs⟩
          · exact ⟨o, keep b o hb e⟩
  cases hk : K.lookup a with
  | some o =>
    have e := KX a o hk
    rw [ha] at e
    cases e
    refine core (fun b => if b = T then some (.tbl #[]) else none) ⟨if_pos rfl, fun b hb => .inl (if_neg hb)⟩ (.inr ⟨_, vs.toArray, _, hk, rfl, rfl, rfl, by rw [List.size_toArray, lenV]; exact hl, by simpa using rv⟩) (fun b u z => ?_) (fun b z => ?_) fun z => absurd (if_neg aT) z
    · by_cases hb : b = T
      · have z' := (if_pos hb).symm.trans z
        cases z'
        subst hb
        exact hT
      · have z' := (if_neg hb).symm.trans z
        cases z'
    · by_cases hb : b = T
      · exact .inr hb
      · exact absurd (if_neg hb) z
  | none =>
    refine core (fun b => if b = T then some (.tbl #[]) else if b = a then some (.frz { cls := .type "list", data := .seq vs.toArray } (.lst (ns.map V.int))) else none) ⟨if_pos rfl, fun b hb => ?_⟩ (.inl (.inr ⟨{ cls := .type "list", data := .seq vs.toArray }, by show (if a = T then _ else _) = _; rw [if_neg aT, if_pos rfl]⟩)) (fun b u z => ?_) (fun b z => ?_) fun _ => hk
    · by_cases hba : b = a
      · exact .inr ⟨_, _, by show (if b = T then _ else _) = _; rw [if_neg hb, if_pos hba]⟩
      · exact .inl (by show (if b = T then _ else _) = _; rw [if_neg hb, if_neg hba])
    · have z : (if b = T then some (HO.tbl #[]) else if b = a then some (.frz { cls := .type "list", data := .seq vs.toArray } (.lst (ns.map V.int))) else none) = some u := z
      by_cases hb : b = T
      · rw [if_pos hb] at z; cases z
        subst hb; exact hT
      · rw [if_neg hb] at z
        by_cases hba : b = a
        · rw [if_pos hba] at z; cases z
          subst hba
          exact ⟨ha, by rw [List.length_map]; exact hl, vs, _, rv, ha⟩
        · rw [if_neg hba] at z; cases z
    · by_cases hb : b = T
      · exact .inr hb
      · by_cases hba : b = a
        · exact .inl hba
        · exact absurd (by show (if b = T then _ else _) = _; rw [if_neg hb, if_neg hba]) z
theorem walkT {l : PySem.W.OpenLaw} {n k : Nat} {q : Program} {loose : List Str} {XP : (Str → Option Value) → Heap → Prop} {YP : World → Heap → Prop} {d : DefRec} {K : Params → PySem.W.Frag} {CX : World → CXT} {sp : World → Sp} {x : Str} {T c : Addr}
    (hn : l.most = some n) (hn2 : n ≤ sizeLine) (hdf : d.params.defaults = []) (hr : Room k callerA)
    (hY : ∀ (w : World) (h : Heap), YP w h → (K w.params).In h ∧ h.get? T = some (PySem.W.tabObj #[])) (hK : ∀ P : Params, (K P).lookup T = none ∧ PySem.W.codeHdIn (K P) c T = true)
    (F : ∀ (w : World) (mg : Str → Option Value) (fa : Addr) (h : Heap), (K w.params).In h → h.Ns mainGlobals mg → mg d.name = some (.ref fa) →
      ∃ fd : FuncData, (∀ (s : Shared) (u : Value), BindsTo s fd ⟨[u], []⟩ [(x, u)]) ∧
        ∀ base : Heap, (K w.params).In base → base.Ns mainGlobals mg → base.BuiltinsAt mg T → FnOk l.prog w (K w.params) mg base (CX w) k fa fd [x] (sp w))
    (hsp : ∀ (w : World) (H : Hp) (a : Addr) (ns : List Int), ns.length ≤ n → OnlyT T H → SqL (K w.params) H a (ns.map V.int) → sp w [.ref a] H (fun v _ => v = .bl true) fun _ _ _ => False)
    (hCX : ∀ (w : World) (H : Hp) (s : Shared) (e : Value) (s' : Shared), CX w [] H s (fun _ _ _ => False) e s' → False) :
    PySem.W.WalkO q loose XP YP l.row.toRowW d [] (fun f vs => PySem.call f vs) := by
  refine Att.attach_call hn hdf fun w s₀ s₁ mg mb fa o pm cd doc a vs ns G Y ho hd hcd hmg hobj hints hlen hg => ?_
  obtain ⟨KX, hT⟩ := hY w _ Y
  obtain ⟨fd, hb, hF⟩ := F w mg fa _ KX G.T.g hmg
  obtain ⟨bm, ob, b1, b2, b3, b4, b5, b6⟩ := G.T.bmain
  have hbm : s₁.heap.BuiltinsAt mg T := by
    refine ⟨bm, ob, b1, b2, fun z => ?_, fun z => ?_, b3, b4, b5, b6⟩
    · obtain ⟨o, es, ep, e, hd, _⟩ := G.T.g
      rw [z, e] at b3; cases b3; rw [hd] at b6; cases b6
    · rw [z, hT] at b3; cases b3; cases b4
  exact law_callT KX G.T.g G.T.b G.T.builtins G.T.nolimit hg hobj hints (Nat.le_trans hlen hn2) hr hT (hK _).1 (hK _).2 hbm hF hb (fun H hO hS => hsp w H a ns hlen hO hS) fun H e s' => hCX w H s₁ e s'
section
variable {Pg : List Fn} {cl : Cn} {E : XK} {d : Nat} {X : Cx} {σ : L2.St} {H : Hp}
theorem de_ifExp {c a b : Expr} {x y z : Ev.X} {pos} (hc : PT X c (tT Pg cl E d x)) (ha : PE X a (tE Pg cl E d y)) (hb : PE X b (tE Pg cl E d z)) : PE X (.IfExp c a b pos) (tE Pg cl E d (.ite x y z)) := PE.of (pe_ifExp hc ha hb) fun _ _ _ q => ite_of q
theorem fn_zero {P : Program} {w : World} {K : PySem.W.Frag} {mg : Str → Option Value} {base : Heap} {k i : Nat} {f : Addr} {fd : FuncData} {ps : List Str} : FnOk P w K mg base (CXE P w) k f fd ps (spF Pg cl 0 i) := by
  have no : ∀ vs H Q E, ¬ spF Pg cl 0 i vs H Q E := fun vs H Q E ⟨ρ, ws, h, n, s, r, p⟩ => by
    obtain ⟨_, _, _, e, _⟩ := callF_of p
    cases e
  exact ⟨fun vs H Q E z => (no vs H Q E z).elim, fun _ _ _ _ _ _ _ _ _ _ _ _ _ z => (no _ _ _ _ z).elim⟩
theorem pass_blk {N' : List Str} {sc : Scope} {C : Addr} {s₀ : Shared} {H₀ : Hp} {fp : List Addr} : Passes (CXE X.prog X.w) (blk X N' sc C s₀ H₀ fp) E0 := fun _ _ _ _ _ _ _ h => (cxe_none h).elim
theorem de_meth {C k f : Nat} {fa : Addr} {m : Str} {mc : List Nat} {fd : FuncData} {ps : List Str} {o e : Expr} {es : List Expr} {xo y : Ev.X} {ys : List Ev.X} {apos pos : Pos} {pl : Sem Bool} (c : Cls X.K (cl C)) (hm : Meth X.K (cl C) m fa) (F : FnOk X.prog X.w X.K X.mg X.base (CXE X.prog X.w) k fa fd ps (spF Pg cl d f)) (hr : Room k X.A) (hb : Binds X.K fd ps [])
    (hx : Passes (CXE X.prog X.w) X E) (he : PE X o (tE Pg cl E d xo)) (ha : PA X (e :: es) (tA Pg cl E d (y :: ys))) (ef : m = nm mc := by decide +kernel)
    (hst : starEach (e :: es) X.env = (false, eval e X.env) :: starEach es X.env := by rfl) (hpl : (backTo pos (starEach es X.env)).any (·.1) = false := by rfl)
    (ht : eval (.Call (.Attribute o m apos) (e :: es) [] pos) X.env = (do
      let ov ← eval o X.env
      standAt apos.atName
      let (f, first) ← holding [ov] (getMethod ov m pl)
      callWith pos f first (backTo pos (starEach (e :: es) X.env)) (backToKw pos (keywordEach [] X.env))) := by rfl) :
    PE X (.Call (.Attribute o m apos) (e :: es) [] pos) (tE Pg cl E d (.meth C mc f xo (y :: ys))) := by
  subst ef
  exact PE.of (L2.pe_meth he c hm F hr hb .nil hx ha hst hpl ht) fun _ _ _ q => ometh_of q
theorem de_meth0 {C k f : Nat} {fa : Addr} {m : Str} {mc : List Nat} {fd : FuncData} {ps : List Str} {o : Expr} {xo : Ev.X} {apos pos : Pos} {pl : Sem Bool} (c : Cls X.K (cl C)) (hm : Meth X.K (cl C) m fa) (F : FnOk X.prog X.w X.K X.mg X.base (CXE X.prog X.w) k fa fd ps (spF Pg cl d f)) (hr : Room k X.A) (hb : Binds X.K fd ps [])
    (hx : Passes (CXE X.prog X.w) X E) (he : PE X o (tE Pg cl E d xo)) (ef : m = nm mc := by decide +kernel)
    (ht : eval (.Call (.Attribute o m apos) [] [] pos) X.env = (do
      let ov ← eval o X.env
      standAt apos.atName
      let (f, first) ← holding [ov] (getMethod ov m pl)
      callWith pos f first (backTo pos (starEach [] X.env)) (backToKw pos (keywordEach [] X.env))) := by rfl) :
    PE X (.Call (.Attribute o m apos) [] [] pos) (tE Pg cl E d (.meth C mc f xo [])) := by
  subst ef
  refine PE.of (L2.pe_meth0 he c hm F hr hb .nil hx ht) fun σ H Q q => ?_
  obtain ⟨ρ, τ, h, n, s, rs, p⟩ := ometh_of q
  refine ⟨ρ, τ, h, n, s, rs, p.mono fun a h ρ H _ _ ⟨w, e, g⟩ => ⟨w, e, fun v rv => ?_⟩⟩
  obtain ⟨a, dx, fs, e1, e2, e3, z⟩ := g v rv
  exact ⟨a, dx, fs, e1, e2, e3, tA_nil z⟩
theorem de_make {C k f : Nat} {fa : Addr} {x : Str} {fd : FuncData} {ps : List Str} {e : Expr} {es : List Expr} {y : Ev.X} {ys : List Ev.X} {p pos : Pos} (M : Mk X.K (cl C) fa) (F : FnOk X.prog X.w X.K X.mg X.base (CXE X.prog X.w) k fa fd ps (spF Pg cl d f)) (hr : Room (k + 1) X.A) (hg : Gl X x) (hm : X.mg x = some (.ref (cl C))) (hb : Binds X.K fd ps []) (hx : Passes (CXE X.prog X.w) X E)
    (ha : PA X (e :: es) (tA Pg cl E d (y :: ys))) (hdb : (x == ("__debug__" : Str)) = false := by decide) (he : starEach (e :: es) X.env = (false, eval e X.env) :: starEach es X.env := by rfl) (hpl : (backTo pos (starEach es X.env)).any (·.1) = false := by rfl) :
    PE X (.Call (.Name x p) (e :: es) [] pos) (tE Pg cl E d (.make C f (y :: ys))) := PE.of (pe_make M F hr hg hm hb .nil hx ha hdb he hpl) fun _ _ _ q => make_of q
theorem ds_raise {σ0 : L2.St} {C k : Nat} {cc : List Nat} {fa : Addr} {fd : FuncData} {ps : List Str} {x : Str} {p cpos pos : Pos} (O : Own X) (hxe : X.xe = xeOf X E) (hc : X.calm = true) (M : XMk X.K (cl C) fa) (F : FnOk X.prog X.w X.K X.mg X.base CX0 k fa fd ps (spX (cl C) cc)) (hr : Room (k + 1) X.A) (hb : Binds X.K fd ps [])
    (hg : Gl X x) (hm : X.mg x = some (.ref (cl C))) (hdb : (x == ("__debug__" : Str)) = false := by decide) : PS X (.Raise (some (.Call (.Name x p) [] [] cpos)) none pos) (tS Pg cl E d σ0 (.raise C cc)) := PS.of (ps_raise0 O hxe hc M F hr hb hg hm hdb) fun _ _ _ q => raise_of' q
end
end Ev

set_option maxRecDepth 100000
set_option maxHeartbeats 4000000
namespace Ev
open PySem PySem.Spec PySem.SeqAt PyProof.Rows L2
section
variable {Pg : List Fn} {cl : Cn} {E : XK} {d : Nat} {X : Cx} {σ : L2.St} {H : Hp}
def KTup (K : PySem.W.Frag) (a : Addr) (ns : List Int) : Prop := ∀ H, SqT K H a (ns.map V.int)
inductive Ents (K : PySem.W.Frag) : List DictEntry → List (List Nat × List Int) → Prop
  | nil : Ents K [] []
  | cons {hs c t a ns es tb} : KTup K a ns → Ents K es tb → Ents K (⟨hs, .str (nm c) t, .ref a⟩ :: es) ((c, ns) :: tb)
structure TabK (K : PySem.W.Frag) (w : World) (da : Addr) (tb : List (List Nat × List Int)) : Prop where
  ex : ∃ (es : List DictEntry) (n : Nat), K.lookup da = some ⟨.type "dict", none, .dict es.toArray n, #[]⟩ ∧ PySem.W.KeysLit w.params es ∧ Ents K es tb
  ns : (da == sysModules) = false
theorem Ents.look {K : PySem.W.Frag} {c : List Nat} : ∀ {es : List DictEntry} {tb : List (List Nat × List Int)}, Ents K es tb →
    (∃ a, (es.find? fun e => Value.isStrOf (nm c) e.key).map (·.val) = some (.ref a) ∧ KTup K a (tabOf tb c)) ∨ ((es.find? fun e => Value.isStrOf (nm c) e.key).map (·.val) = none ∧ tabOf tb c = [])
  | _, _, .nil => .inr ⟨rfl, rfl⟩
  | _, _, @Ents.cons _ hs c' t a ns es tb k r => by
    rw [List.find?_cons]
    cases z : codes c' c with
    | true =>
      have e := codes_t.mp z
      have e1 : Value.isStrOf (nm c) (Value.str (nm c') t) = true := by rw [e]; simp [Value.isStrOf]
      have e2 : tabOf ((c', ns) :: tb) c = ns := by show ifB (codes c' c) ns (tabOf tb c) = ns; rw [z]; rfl
      rw [e1, e2]
      exact .inl ⟨a, rfl, k⟩
    | false =>
      have e1 : Value.isStrOf (nm c) (Value.str (nm c') t) = false := by
        show (nm c' == nm c) = false
        exact beq_eq_false_iff_ne.mpr fun q => by rw [codes_t.mpr (nm_inj q)] at z; cases z
      have e2 : tabOf ((c', ns) :: tb) c = tabOf tb c := by show ifB (codes c' c) ns (tabOf tb c) = _; rw [z]; rfl
      rw [e1, e2]
      exact r.look
def tTabG (K : PySem.W.Frag) (tb : List (List Nat × List Int)) (t : TE) : TE := fun σ H Q => t σ H fun v H2 => ∃ c, v = .str (nm c) ∧ ∀ p, H2 p = none → ∀ a, (a = p ∧ tabOf tb c = [] ∨ KTup K a (tabOf tb c)) → Q (.ref a) (upd H2 p (.tup []))
theorem pe_tabG {x : Str} {da : Addr} {tb : List (List Nat × List Int)} {k : Expr} {t : TE} {p apos cpos tpos : Pos} {x1 : Nat} (T : TabK X.K X.w da tb) (hg : Gl X x) (hm : X.mg x = some (.ref da)) (hk : PE X k t) (hxd : (x == ("__debug__" : Str)) = false := by decide)
    (hbase : attributeBase (.Name x p) "get" X.env (eval (.Name x p) X.env) = eval (.Name x p) X.env := by rfl)
    (hfew : ((backTo cpos (starEach [k, .Tuple [] x1 tpos] X.env)).all (fun x => !x.1) && (backToKw cpos (keywordEach [] X.env)).all (fun x => x.1.isSome)
      && decide (([k, .Tuple [] x1 tpos] : List Expr).length + ([] : List Keyword).length + (if ([] : List Keyword).isEmpty then 0 else 1) < 30)) = true := by rfl)
    (hline : (apos.endLine == cpos.line) = true := by rfl) (hs : starEach [k, .Tuple [] x1 tpos] X.env = (false, eval k X.env) :: starEach [.Tuple [] x1 tpos] X.env := by rfl) (hs2 : starEach [Expr.Tuple [] x1 tpos] X.env = (false, eval (.Tuple [] x1 tpos) X.env) :: starEach [] X.env := by rfl) (hplain : (backTo cpos (starEach [Expr.Tuple [] x1 tpos] X.env)).any (·.1) = false := by rfl) :
    PE X (.Call (.Attribute (.Name x p) "get" apos) [k, .Tuple [] x1 tpos] [] cpos) (tTabG X.K tb t) := by
  intro pins s σ H Q I h
  obtain ⟨⟨es, n, lk, kl, en⟩, ns⟩ := T
  refine wpAny_Call_method_late hbase hfew hline rfl (ld_glob I hg hm ?_ hxd)
  have hob := I.kIn _ _ lk
  refine ⟨"dict", "dict.get", PySem.F.plainAttrs_dict, PySem.F.slot_dict_get, PySem.F.type_dict_get, ⟨_, hob, rfl⟩, fun a e => by cases e; exact ⟨_, hob, rfl⟩, ?_⟩
  rw [hs]
  refine Calls.callWith_builtin (by show (false || (backTo cpos (starEach [Expr.Tuple [] x1 tpos] X.env)).any (·.1)) = false; rw [hplain] <;> rfl) (Calls.evalArgs_plain ?_)
  show wpAny _ _ (spliced ((false, eval k X.env) :: backTo cpos (starEach [Expr.Tuple [] x1 tpos] X.env))) _ _ s
  refine Calls.spliced_cons (thn (hk pins s σ H _ I h) fun u s1 ⟨v, H1, I1, rv, c, ev, q⟩ => ?_)
  subst ev
  obtain ⟨tk, rfl⟩ := rv
  rw [hs2]
  show wpAny _ _ (spliced ((false, eval (.Tuple [] x1 tpos) X.env) :: backTo cpos (starEach [] X.env))) _ _ s1
  refine Calls.spliced_cons (thn (pe_tup (X := X) (x1 := x1) (pos := tpos) pa_nil pins s1 σ H1 (fun y H2 => ∃ q', y = .ref q' ∧ H1 q' = none ∧ H2 = upd H1 q' (.tup [])) I1 ⟨Nat.zero_le _, fun p hp => ⟨p, rfl, hp, rfl⟩⟩) fun u2 s2 ⟨y, H2, I2, ry, q', ey, hq', eH⟩ => ?_)
  subst ey eH
  obtain rfl : u2 = Value.ref q' := ry
  refine Calls.spliced_nil ?_
  have mo := PySem.W.mapOf_K (prog := X.prog) (w := X.w) I2.kIn lk (by simpa using kl)
  refine call_meetsIn PySem.F.slot_dict_get ⟨_, I2.kIn _ _ lk, rfl⟩ PySem.F.entry_dict_get (PySem.F.args_dict_get_3 _ _ _) (meets_dict_get_default (strKind X.prog X.w) da (strKind_is X.prog X.w (nm c) tk) ns (.ref q')) ⟨_, mo, ?_⟩
  have fe : findBy Value.isStrOf es.toArray (nm c) = (es.find? fun e => Value.isStrOf (nm c) e.key).map (·.val) := by
    unfold findBy
    rw [List.find?_toArray]
  rcases en.look (c := c) with ⟨a, e1, e2⟩ | ⟨e1, e2⟩
  · refine ⟨.ref a, _, I2.tok _, ?_, q q' hq' a (.inr e2)⟩
    show (findBy Value.isStrOf es.toArray (nm c)).getD (.ref q') = .ref a
    rw [fe, e1]; rfl
  · refine ⟨.ref q', _, I2.tok _, ?_, q q' hq' q' (.inl ⟨rfl, e2⟩)⟩
    show (findBy Value.isStrOf es.toArray (nm c)).getD (.ref q') = .ref q'
    rw [fe, e1]; rfl
theorem memZ_eq (i : Int) (ns : List Int) : memZ i ns = inV (.int i) (ns.map V.int) := by
  induction ns with
  | nil => rfl
  | cons n ns ih =>
    show ifB (ieq n i) true (memZ i ns) = (eqV (.int n) (.int i) || inV (.int i) (ns.map V.int))
    rw [ih, show eqV (.int n) (.int i) = (n == i) from rfl, beq_i]
    cases ieq n i <;> rfl
theorem flat_ints (ns : List Int) : (ns.map V.int).all flatV = true := by
  induction ns with
  | nil => rfl
  | cons n ns ih => exact ih
theorem o_tab {K : PySem.W.Frag} {tb : List (List Nat × List Int)} : Op2 cl (.tab tb) (fun x y H2 Q => ∃ c, y = .str (nm c) ∧ ∀ p, H2 p = none → ∀ a, (a = p ∧ tabOf tb c = [] ∨ KTup K a (tabOf tb c)) → rIn K true x (.ref a) (upd H2 p (.tup [])) Q) := fun E ρ h H w1 w2 v1 v2 Q s r1 r2 p => by
  obtain ⟨i, rfl, p1⟩ := oI (show Post cl ρ H E (ofW (pTab tb h w1 w2)) (VP Q) from p)
  cases r1
  cases r2 with
  | str c =>
    refine ⟨c, rfl, fun q hq a ha => ?_⟩
    have p2 : Post cl ρ H E (ofW (.yes (!memZ i (tabOf tb c)) h)) (VP Q) := p1
    have fin : Q (.bl (!inV (.int i) ((tabOf tb c).map V.int))) (upd H q (.tup [])) := by
      rw [← memZ_eq]
      exact Post.yes (s.other hq) (p2.later (Bt.other hq)) rfl
    rcases ha with ⟨rfl, e⟩ | ha
    · rw [e] at fin
      exact ⟨a, [], rfl, .inr (SqT.of upd_same), rfl, rfl, fin⟩
    · exact ⟨a, _, rfl, .inr (ha _), rfl, flat_ints _, fin⟩
  | _ => exact p1.elim
theorem tab_of {K : PySem.W.Frag} {tb : List (List Nat × List Int)} {a k : Ev.X} {Q : VK} (x : tE Pg cl E d (.pr (.tab tb) [a, k]) σ H Q) : tOp (rIn K true) (tE Pg cl E d a) (tTabG K tb (tE Pg cl E d k)) σ H Q := two_of o_tab x
theorem dt_tab {x : Str} {da : Addr} {tb : List (List Nat × List Int)} {a k : Expr} {xa xk : Ev.X} {p apos cpos tpos pos : Pos} {x1 : Nat} (T : TabK X.K X.w da tb) (hg : Gl X x) (hm : X.mg x = some (.ref da)) (ha : PE X a (tE Pg cl E d xa)) (hk : PE X (.Call (.Attribute (.Name x p) "get" apos) [k, .Tuple [] x1 tpos] [] cpos) (tTabG X.K tb (tE Pg cl E d xk)))
    (hmk : behindInMarks .NotIn (.Call (.Attribute (.Name x p) "get" apos) [k, .Tuple [] x1 tpos] [] cpos) = false) : PT X (.Compare a [.NotIn] [.Call (.Attribute (.Name x p) "get" apos) [k, .Tuple [] x1 tpos] [] cpos] pos) (tT Pg cl E d (.pr (.tab tb) [xa, xk])) := PT.of (pt_cmpR op_notIn_seq ha hk hmk) fun _ _ _ q => tab_of q
end
end Ev

set_option maxRecDepth 100000
set_option maxHeartbeats 4000000
namespace Ev
open PySem PySem.Spec PySem.SeqAt PyProof.Rows L2
theorem word_eq : ("word" : Str) = nm wordT := by decide +kernel
def spS (K : PySem.W.Frag) : Sp := fun vs H Q _ => ∃ e C y, vs = [.ref e, y] ∧ H e = some (XO e C none) ∧ XCls K C ∧ NoAttr K C "word" ∧ ∀ dx, H dx = none → dx ≠ e → Q .non (upd (upd H dx (.xd [("word", y)])) e (XO e C (some dx)))
section
variable {Pg : List Fn} {cl : Cn} {E : XK} {d : Nat} {X : Cx} {σ : L2.St} {H : Hp}
def spSameN (n : Nat) : Sp := fun vs H Q _ => ∃ (x y : V) (dx dy : PyData), vs = [x, y] ∧ Rep H x dx ∧ Rep H y dy ∧ dy.depth < n ∧ ∀ H', Same H H' → Q (.bl (PySem.Spec.same dx dy)) H'
theorem Sim.same {ρ : List Addr} {h : Hs} {H' : Hp} (s : Sim cl ρ h H) (e : Same H H') : Sim cl ρ h H' ∧ Bt cl ρ H ρ H' := by
  refine ⟨⟨s.len, s.nd, fun n a q => ?_, fun on => ?_⟩, List.prefix_refl _, fun b u q nb => ⟨nb, fun _ => e b u q, u, e b u q⟩⟩
  · obtain ⟨o, ho, x⟩ := s.obj n a q
    obtain ⟨u, hu⟩ := x.som
    exact ⟨o, ho, x.keep (List.prefix_refl _) ((e a u hu).trans hu.symm)⟩
  · obtain ⟨ps, h1, h2, h3⟩ := s.tb on
    refine ⟨ps, e _ _ h1, h2, fun pos cv z => ?_⟩
    obtain ⟨c', e1, e2⟩ := h3 pos cv z
    exact ⟨c', e1, e _ _ e2⟩
theorem o_same : OpN cl .same (fun vs H Q => spSameN 13 vs H Q E0) := fun E ρ h H ws vs Q s r p => by
  obtain ⟨w, v, w', v', rfl, rfl, r1, r2, p1⟩ := two_w r (show Post cl ρ H E (ofW (twoW ws (pSame h))) (VP Q) from p)
  obtain ⟨x, ex, p2⟩ := oOpt p1
  obtain ⟨y, ey, p3⟩ := oOpt p2
  obtain ⟨a1, a2, a3⟩ := toD_rep s 12 r1 ex
  obtain ⟨b1, b2, b3⟩ := toD_rep s 12 r2 ey
  refine ⟨v, v', pd x, pd y, rfl, a1, b1, by omega, fun H' e => ?_⟩
  obtain ⟨s', bt⟩ := s.same e
  exact Post.yes s' (p3.later bt) (same_pd x y).symm
theorem de_same {k : Nat} {fa : Addr} {fd : FuncData} {ps : List Str} {st : Stmt} {x : Str} {e : Expr} {es : List Expr} {y : Ev.X} {ys : List Ev.X} {p pos : Pos} (D : Df X.K X.mg x st ps fa fd) (F : FnOk X.prog X.w X.K X.mg X.base CX0 k fa fd ps (spSameN 13)) (hr : Room k X.A) (hg : Gl X x) (ha : PA X (e :: es) (tA Pg cl E d (y :: ys))) (hdb : (x == ("__debug__" : Str)) = false := by decide)
    (he : starEach (e :: es) X.env = (false, eval e X.env) :: starEach es X.env := by rfl) (hpl : (backTo pos (starEach es X.env)).any (·.1) = false := by rfl) :
    PE X (.Call (.Name x p) (e :: es) [] pos) (tE Pg cl E d (.pr .same (y :: ys))) := PE.of (pe_cd D F hr hg ha hdb he hpl) fun σ H Q q => by
  obtain ⟨ρ, τ, h, n, s, rs, z⟩ := n_of o_same q
  exact ⟨ρ, τ, h, n, s, rs, z.mono fun a h ρ H _ _ ⟨ws, e, g⟩ => ⟨ws, e, fun vs rv => by show spSameN 13 (vs ++ []) H Q E0; rw [List.append_nil]; exact g vs rv⟩⟩
end
end Ev

set_option maxRecDepth 100000
set_option maxHeartbeats 4000000
namespace Ev
open PySem L2
section
variable {Pg : List Fn} {cl : Cn} {E : XK} {d : Nat} {X : Cx} {σ σ0 : L2.St} {H : Hp}
def never : S := .expr (.pr .neg [])
theorem ds_never {st : Stmt} : PS X st (tS Pg cl E d σ0 never) := fun pins s σ H D I h => by
  obtain ⟨ρ, τ, h, n, s, rs, ag, p⟩ := h
  refine False.elim ?_
  match n, p with
  | 0, p => exact p
  | 1, p => exact p
  | 2, p => exact p
  | n + 3, p => exact p
theorem seq_of {a : S} {as : List S} {D : Ends} (x : tSs Pg cl E d σ0 (a :: as) D σ H) : tSeq (tS Pg cl E d σ0 a) (tSs Pg cl E d σ0 as) D σ H := by
  obtain ⟨ρ, τ, h, n, s, rs, ag, q⟩ := x.step
  refine evS.then s rs ag (show Post cl ρ H E ((evs Pg n d (.s a) τ h).bind fun r h => r.toF fun f => Fl.rec (fun τ => evs Pg n d (.ss as) τ h) (fun w => .ok (.fl (.rt w)) h) (fun τ => .ok (.fl (.bk τ)) h) (fun τ => .ok (.fl (.ct τ)) h) f) (SPo σ0 D) from q) fun a1 h1 ρ1 H1 b1 s1 p1 => ?_
  obtain ⟨f, rfl, p2⟩ := toF_of p1
  refine ⟨f, rfl, ?_⟩
  cases f with
  | nx τ1 => exact fun σ1 rs1 ag1 => ⟨ρ1, τ1, h1, n, s1, rs1, ag1, p2⟩
  | rt w =>
    obtain ⟨f, ef, qf⟩ := Post.now s1 (show Post cl ρ1 H1 E (.ok (.fl (.rt w)) h1) (SPo σ0 D) from p2)
    cases ef; exact qf
  | bk τ1 =>
    obtain ⟨f, ef, qf⟩ := Post.now s1 (show Post cl ρ1 H1 E (.ok (.fl (.bk τ1)) h1) (SPo σ0 D) from p2)
    cases ef; exact qf
  | ct τ1 =>
    obtain ⟨f, ef, qf⟩ := Post.now s1 (show Post cl ρ1 H1 E (.ok (.fl (.ct τ1)) h1) (SPo σ0 D) from p2)
    cases ef; exact qf
theorem nil_of {D : Ends} (x : tSs Pg cl E d σ0 [] D σ H) : D.nx σ H := by
  obtain ⟨ρ, τ, h, n, s, rs, ag, q⟩ := x.step
  obtain ⟨f, ef, qf⟩ := Post.now s (show Post cl ρ H E (.ok (.fl (.nx τ)) h) (SPo σ0 D) from q)
  cases ef
  exact qf σ rs ag
def tSx (Pg : List Fn) (cl : Cn) (E : XK) (d : Nat) (σ0 : L2.St) (as : List S) (u : TS) : TS := fun D σ H => tSs Pg cl E d σ0 as { D with nx := u D } σ H
theorem dsx_cons {st : Stmt} {rest : List Stmt} {a : S} {as : List S} {u : TS} (h1 : PS X st (tS Pg cl E d σ0 a)) (h2 : PSs X rest (tSx Pg cl E d σ0 as u)) : PSs X (st :: rest) (tSx Pg cl E d σ0 (a :: as) u) :=
  PSs.of (pss_cons h1 h2) fun D σ H x => seq_of (D := { D with nx := u D }) x
theorem dsx_end {rest : List Stmt} {u : TS} (h2 : PSs X rest u) : PSs X rest (tSx Pg cl E d σ0 [] u) := PSs.of h2 fun D σ H x => nil_of (D := { D with nx := u D }) x
def tSt (Pg : List Fn) (cl : Cn) (E : XK) (d : Nat) (as : List S) (u : TS) : TS := fun D σ H => tSx Pg cl E d σ as u D σ H
theorem pss_st {b : List Stmt} {a : List S} {u : TS} (h : ∀ σ0, PSs X b (tSx Pg cl E d σ0 a u)) : PSs X b (tSt Pg cl E d a u) := fun pins s σ H D I q => h σ pins s σ H D I q
theorem RS.of {ρ : List Addr} : ∀ {τ : Sg} {σ : L2.St}, τ.length = σ.length → (∀ i w, getAt τ i = some w → ∃ v, σ[i]? = some (some v) ∧ RW ρ w v) → RS ρ τ σ
  | [], [], _, _ => .nil
  | [], _ :: _, e, _ => by simp at e
  | _ :: _, [], e, _ => by simp at e
  | o :: τ, p :: σ, e, h => by
    refine .cons ?_ (RS.of (by simpa using e) fun i w q => by simpa using h (i + 1) w q)
    cases o with
    | none => cases p <;> trivial
    | some w =>
      obtain ⟨v, e1, r⟩ := h 0 w rfl
      simp at e1; subst e1
      exact r
theorem RS.len {ρ : List Addr} {τ : Sg} {σ : L2.St} (h : RS ρ τ σ) : τ.length = σ.length := Paired.length h
theorem Sim.none (t : Tb cl H) : Sim cl [] (.mk 0 .lf) H := ⟨rfl, by simp, fun n a h => by simp at h, t⟩
theorem Sim.adopt {ρ : List Addr} {h : Hs} {p : Addr} {o : O} (s : Sim cl ρ h H) (e : p ∉ ρ) (x : OA cl (ρ ++ [p]) H p o) : Sim cl (ρ ++ [p]) (h.push o) H where
  len := by rw [List.length_append, Hs.n_push, s.len]; rfl
  nd := List.nodup_append.mpr ⟨s.nd, by simp, fun a ha b hb z => by
    simp only [List.mem_singleton] at hb
    exact e (by rw [← hb, ← z]; exact ha)⟩
  obj := fun n a hn => by
    rw [Hs.get_push]
    by_cases hlt : n < ρ.length
    · rw [List.getElem?_append_left hlt] at hn
      obtain ⟨o', q, y⟩ := s.obj n a hn
      exact ⟨o', by rw [if_neg (by rw [← s.len]; omega)]; exact q, y.keep (List.prefix_append _ _) rfl⟩
    · have hn' : n = ρ.length := by
        have := (List.getElem?_eq_some_iff.mp hn).1
        rw [List.length_append] at this
        simp at this; omega
      subst hn'
      rw [List.getElem?_append_right (Nat.le_refl _), Nat.sub_self] at hn
      simp at hn; subst hn
      exact ⟨o, by rw [if_pos s.len], x⟩
  tb := s.tb
theorem not_tbl {a : Addr} {u : HO} (t : Tb cl H) (e : H a = some u) (n : ∀ ps, u ≠ .tbl ps) : cl.on = true → a ≠ cl.P := fun on z => by
  obtain ⟨ps, q, _⟩ := t on
  rw [← z, e] at q
  exact n ps (Option.some.inj q)
theorem SqL.bt {K : PySem.W.Frag} {ρ' : List Addr} {H' : Hp} {a : Addr} {xs : List V} (b : Bt cl [] H ρ' H') (t : Tb cl H) (h : SqL K H a xs) : SqL K H' a xs := by
  rcases h with (e | ⟨o, e⟩) | h
  · exact .inl (.inl ((b.2 a _ e (by simp)).2.1 (not_tbl t e fun _ z => by cases z)))
  · exact .inl (.inr ⟨o, (b.2 a _ e (by simp)).2.1 (not_tbl t e fun _ z => by cases z)⟩)
  · exact .inr h
def goes (r : R A) (f : Sg → Hs → Bool) : Bool := match r with
  | .ok (.fl (.nx τ)) h => f τ h
  | _ => false
theorem goes_of {r : R A} {f : Sg → Hs → Bool} (e : goes r f = true) : ∃ τ h, r = .ok (.fl (.nx τ)) h ∧ f τ h = true := by
  unfold goes at e
  split at e
  · exact ⟨_, _, rfl, e⟩
  · cases e
theorem stage {as : List S} {u : TS} {D : Ends} {ρ : List Addr} {τ τ' : Sg} {h h' : Hs} {n : Nat} (s : Sim cl ρ h H) (rs : RS ρ τ σ) (run : evs Pg n d (.ss as) τ h = .ok (.fl (.nx τ')) h')
    (k : ∀ ρ' H' σ', Bt cl ρ H ρ' H' → Sim cl ρ' h' H' → RS ρ' τ' σ' → Ag σ τ' σ' → u D σ' H') : tSt Pg cl E d as u D σ H :=
  ⟨ρ, τ, h, n, s, rs, fun _ _ => rfl, by rw [run]; exact fun ρ' H' b s' => ⟨_, rfl, fun σ' rs' ag => k ρ' H' σ' b s' rs' ag⟩⟩
theorem SqL.kept {K : PySem.W.Frag} {H' : Hp} {a : Addr} {xs : List V} (h : SqL K H a xs) (f : ∀ u, (∀ ps, u ≠ .tbl ps) → H a = some u → H' a = some u) : SqL K H' a xs := by
  rcases h with (e | ⟨o, e⟩) | h
  · exact .inl (.inl (f _ (fun _ z => by cases z) e))
  · exact .inl (.inr ⟨o, f _ (fun _ z => by cases z) e⟩)
  · exact .inr h
theorem Bt.kept {ρ ρ' : List Addr} {H' : Hp} {a : Addr} {u : HO} (b : Bt cl ρ H ρ' H') (t : Tb cl H) (n : ∀ ps, u ≠ .tbl ps) (h : a ∉ ρ) (e : H a = some u) : H' a = some u := (b.2 a u e h).2.1 (not_tbl t e n)
theorem set_self {α : Type} {xs : List α} {i : Nat} {x : α} (h : xs[i]? = some x) : xs.set i x = xs := by
  apply List.ext_getElem?
  intro j
  rw [List.getElem?_set]
  by_cases e : i = j
  · subst e
    rw [if_pos rfl, h, if_pos (List.getElem?_eq_some_iff.mp h).1]
  · rw [if_neg e]
def spLawT (K : PySem.W.Frag) (T : Addr) : Sp := fun vs H Q _ => ∃ (a : Addr) (ns : List Int), vs = [.ref a] ∧ OnlyT T H ∧ SqL K H a (ns.map V.int) ∧ ns.length ≤ 63 ∧ ∀ H', Q (.bl true) H'
theorem tb_only {T : Addr} (h : OnlyT T H) (e : cl.P = T) : Tb cl H := fun _ => ⟨#[], by rw [e]; exact h.1, trivial, fun pos cv z => by simp [codeAmong] at z⟩
theorem rw_ints (ρ : List Addr) : ∀ ns : List Int, RWs ρ (ns.map W.int) (ns.map V.int)
  | [] => .nil
  | n :: ns => .cons (.int n) (rw_ints ρ ns)
theorem Ag.at {τ : Sg} {σ' : L2.St} {i : Nat} {x : Option (Option V)} (a : Ag σ τ σ') (e : getAt τ i = none) (h : σ[i]? = x) : σ'[i]? = x := by rw [a i e]; exact h
theorem head_of {σ : L2.St} {n : Nat} {v : V} (h : σ[0]? = some (some v)) (e : σ.length = n + 1) : ∃ vs : List (Option V), σ = some v :: vs ∧ vs.length = n := by
  cases σ with
  | nil => simp at h
  | cons o vs => simp at h e; exact ⟨vs, by rw [h], e⟩
theorem ref_at {ρ : List Addr} {τ : Sg} {σ : L2.St} {i n : Nat} {a : Addr} (rs : RS ρ τ σ) (e : getAt τ i = some (.ref n)) (h : ρ[n]? = some a) : σ[i]? = some (some (.ref a)) := by
  obtain ⟨v, e1, r⟩ := rs.get e
  have := r.inj (.ref (ρ := ρ) h)
  rw [e1, this]
theorem val_at {ρ : List Addr} {τ : Sg} {σ : L2.St} {i : Nat} {w : W} (ρ' : List Addr) (rs : RS ρ τ σ) (e : getAt τ i = some w) (h : ∀ n, w ≠ .ref n) : ∃ v, σ[i]? = some (some v) ∧ RW ρ' w v := by
  obtain ⟨v, e1, r⟩ := rs.get e
  refine ⟨v, e1, ?_⟩
  cases r with
  | non => exact .non
  | bl b => exact .bl b
  | int i => exact .int i
  | str c => exact .str c
  | ref h' => exact absurd rfl (h _)
theorem da_Name {x p} {es : List Expr} {a : Ev.X} {as : List Ev.X} (ha : PE X (.Name x p) (tE Pg cl E d a)) (hr : PA X es (tA Pg cl E d as)) : PA X (.Name x p :: es) (tA Pg cl E d (a :: as)) := da_cons ha hr rfl
theorem da_Constant {x k p} {es : List Expr} {a : Ev.X} {as : List Ev.X} (ha : PE X (.Constant x k p) (tE Pg cl E d a)) (hr : PA X es (tA Pg cl E d as)) : PA X (.Constant x k p :: es) (tA Pg cl E d (a :: as)) := da_cons ha hr rfl
theorem da_Tuple {x k p} {es : List Expr} {a : Ev.X} {as : List Ev.X} (ha : PE X (.Tuple x k p) (tE Pg cl E d a)) (hr : PA X es (tA Pg cl E d as)) : PA X (.Tuple x k p :: es) (tA Pg cl E d (a :: as)) := da_cons ha hr rfl
theorem da_BinOp {x o y p} {es : List Expr} {a : Ev.X} {as : List Ev.X} (ha : PE X (.BinOp x o y p) (tE Pg cl E d a)) (hr : PA X es (tA Pg cl E d as)) : PA X (.BinOp x o y p :: es) (tA Pg cl E d (a :: as)) := da_cons ha hr rfl
theorem da_Call {f x k p} {es : List Expr} {a : Ev.X} {as : List Ev.X} (ha : PE X (.Call f x k p) (tE Pg cl E d a)) (hr : PA X es (tA Pg cl E d as)) : PA X (.Call f x k p :: es) (tA Pg cl E d (a :: as)) := da_cons ha hr rfl
theorem da_Subscript {x i p} {es : List Expr} {a : Ev.X} {as : List Ev.X} (ha : PE X (.Subscript x i p) (tE Pg cl E d a)) (hr : PA X es (tA Pg cl E d as)) : PA X (.Subscript x i p :: es) (tA Pg cl E d (a :: as)) := da_cons ha hr rfl
theorem da_IfExp {x y z p} {es : List Expr} {a : Ev.X} {as : List Ev.X} (ha : PE X (.IfExp x y z p) (tE Pg cl E d a)) (hr : PA X es (tA Pg cl E d as)) : PA X (.IfExp x y z p :: es) (tA Pg cl E d (a :: as)) := da_cons ha hr rfl
theorem da_UnaryOp {o x p} {es : List Expr} {a : Ev.X} {as : List Ev.X} (ha : PE X (.UnaryOp o x p) (tE Pg cl E d a)) (hr : PA X es (tA Pg cl E d as)) : PA X (.UnaryOp o x p :: es) (tA Pg cl E d (a :: as)) := da_cons ha hr rfl
end
end Ev

set_option maxRecDepth 100000
set_option maxHeartbeats 4000000
namespace Ev
open PySem L2
structure QE (X : Cx) (e : Expr) (t : TE) : Prop where
  h : PE X e t
structure QA (X : Cx) (e : List Expr) (t : TA) : Prop where
  h : PA X e t
structure QS (X : Cx) (e : Stmt) (t : TS) : Prop where
  h : PS X e t
structure QSs (X : Cx) (e : List Stmt) (t : TS) : Prop where
  h : PSs X e t
section
variable {Pg : List Fn} {cl : Cn} {E : XK} {d : Nat} {X : Cx} {σ0 : L2.St}
theorem qe_lst {es : List Expr} {xs : List Ev.X} {pos} (h : QA X es (tA Pg cl E d xs)) : QE X (.List es pos) (tE Pg cl E d (.pr .lst xs)) := ⟨de_lst h.h⟩
theorem qa_nil : QA X [] (tA Pg cl E d []) := ⟨da_nil⟩
theorem qa_si {s : Str} (c : List Nat) {n : Int} {j1 j2 x} {p1 p2 pos : Pos} {es : List Expr} {as : List Ev.X} (hr : QA X es (tA Pg cl E d as)) (e : s = ⟨c.toArray⟩ := by decide +kernel) :
    QA X (.Tuple [.Constant (.str s) j1 p1, .Constant (.int n) j2 p2] x pos :: es) (tA Pg cl E d (.pr .tup [.cst (.str c), .cst (.int n)] :: as)) := ⟨da_Tuple (de_tup (da_Constant (de_str c e) (da_Constant de_int da_nil))) hr.h⟩
theorem qe_op {op : Operator} {p : Pr} {r : R2} {a b : Expr} {x y : Ev.X} {pos : Pos} (z : Op2 cl p r) (o : OpR X (binaryOp op) r) (ha : QE X a (tE Pg cl E d x)) (hb : QE X b (tE Pg cl E d y)) : QE X (.BinOp a op b pos) (tE Pg cl E d (.pr p [x, y])) := ⟨de_op z o ha.h hb.h⟩
theorem qe_ix {a b : Expr} {x y : Ev.X} {pos : Pos} (ha : QE X a (tE Pg cl E d x)) (hb : QE X b (tE Pg cl E d y)) (hs : PlainIx b := by exact fun _ _ => rfl) : QE X (.Subscript a b pos) (tE Pg cl E d (.pr .ix [x, y])) := ⟨de_ix ha.h hb.h hs⟩
theorem qs_set {i : Nat} {x : Str} {e : Expr} {y : Ev.X} {pos pos' : Pos} (hN : X.N.Nodup) (hi : X.N[i]? = some x) (hx : Loc X.env.scope x) (he : QE X e (tE Pg cl E d y)) (hs : swapsWith e (some (.Name x pos')) pos.line X.env = pure false := by rfl) (hf : X.fn x = true ∨ X.env.scope.names.lookup x = some .local := by first | exact .inl rfl | exact .inr rfl | assumption) :
    QS X (.Assign [.Name x pos'] e pos) (tS Pg cl E d σ0 (.asg (.nm i) y)) := ⟨ds_set hN hi hx he.h hs hf⟩
theorem qs_asg {tg e : Expr} {t : Tg} {y : Ev.X} {pos : Pos} (he : QE X e (tE Pg cl E d y)) (hg : PG X tg (tG cl t)) (hs : swapsWithSole [tg] e pos.line X.env = pure false := by rfl) (hw : swappedStores [tg] e X.env = pure none := by rfl)
    (h1 : (assignEach [tg] X.env).map (·.2) = [assign tg X.env] := by rfl) : QS X (.Assign [tg] e pos) (tS Pg cl E d σ0 (.asg t y)) := ⟨ds_asg he.h hg hs hw h1⟩
theorem qsx_cons {st : Stmt} {rest : List Stmt} {a : S} {as : List S} {u : TS} (h1 : QS X st (tS Pg cl E d σ0 a)) (h2 : QSs X rest (tSx Pg cl E d σ0 as u)) : QSs X (st :: rest) (tSx Pg cl E d σ0 (a :: as) u) := ⟨dsx_cons h1.h h2.h⟩
theorem qsx_end {rest : List Stmt} {u : TS} (h2 : QSs X rest u) : QSs X rest (tSx Pg cl E d σ0 [] u) := ⟨dsx_end h2.h⟩
theorem qss_nil : QSs X [] tNext := ⟨pss_nil⟩
theorem qss_st {b : List Stmt} {a : List S} {u : TS} (h : ∀ σ0, QSs X b (tSx Pg cl E d σ0 a u)) : QSs X b (tSt Pg cl E d a u) := ⟨pss_st fun σ0 => (h σ0).h⟩
theorem qss_cons {st : Stmt} {rest : List Stmt} {t u : TS} (h1 : PS X st t) (h2 : QSs X rest u) : QSs X (st :: rest) (tSeq t u) := ⟨pss_cons h1 h2.h⟩
theorem qs_for {tg iter : Expr} {body : List Stmt} {wi : TI} {g : TG} {tb : TS} {pos : Pos} (hp : PassesOwn (model X.prog X.w) X.A X.env X.xe) (hc : X.calm = true) (hi : PI X tg iter wi) (hg : PG X tg g) (hb : QSs X body tb)
    (hs : ∀ x, foldedSetIterable iter X.env x = pure x := by intro _; rfl) : PS X (.For tg iter body [] pos) (tFor wi g tb) := ps_for hp hc hi hg hb.h hs
end
end Ev

set_option maxRecDepth 100000
set_option maxHeartbeats 4000000
namespace My
open PySem L2 PyProof.Rows
def top (i : Nat) : Stmt := PySem.Challenge.pw_byestand_k09_seats_of_two_fields.main.body.getD i (.Pass ⟨0, 0, 0, 0⟩)
section
open Ev
abbrev s_trios_of : Stmt := top 23
theorem sc_trios_of : FnScope ["kind", "tables", "pairs", "adds"] ["kind", "tables"] (defScope s_trios_of) := ⟨rfl, rfl, rfl, by decide +kernel, rfl, by decide +kernel, by decide +kernel⟩
abbrev s__law_mixed : Stmt := top 26
theorem sc__law_mixed : FnScope ["_law_seed", "_law_k", "_law_square"] ["_law_seed", "_law_k"] (defScope s__law_mixed) := ⟨rfl, rfl, rfl, by decide +kernel, rfl, by decide +kernel, by decide +kernel⟩
abbrev s__law_draw : Stmt := top 27
theorem sc__law_draw : FnScope ["_law_cell_here", "_law_limits", "_law_rest", "_law_seed", "_law_found", "_law_limit"] ["_law_cell_here", "_law_limits"] (defScope s__law_draw) := ⟨rfl, rfl, rfl, by decide +kernel, rfl, by decide +kernel, by decide +kernel⟩
abbrev s__law_cell : Stmt := top 28
theorem sc__law_cell : FnScope ["_law_script", "_law_k"] ["_law_script", "_law_k"] (defScope s__law_cell) := ⟨rfl, rfl, rfl, by decide +kernel, rfl, by decide +kernel, by decide +kernel⟩
abbrev s__law_num : Stmt := top 29
theorem sc__law_num : FnScope ["_law_found"] ["_law_found"] (defScope s__law_num) := ⟨rfl, rfl, rfl, by decide +kernel, rfl, by decide +kernel, by decide +kernel⟩
abbrev s__law_same : Stmt := top 30
theorem sc__law_same : FnScope ["_law_found", "_law_due"] ["_law_found", "_law_due"] (defScope s__law_same) := ⟨rfl, rfl, rfl, by decide +kernel, rfl, by decide +kernel, by decide +kernel⟩
abbrev s__law_told : Stmt := top 31
theorem sc__law_told : FnScope ["_law_asked", "e"] ["_law_asked"] (defScope s__law_told) := ⟨rfl, rfl, rfl, by decide +kernel, rfl, by decide +kernel, by decide +kernel⟩
abbrev s__law_rows : Stmt := top 37
theorem sc__law_rows : FnScope ["_law_kind", "_law_t", "_law_rows_here", "_law_at", "_law_back", "_law_row", "_law_table", "_law_more"] ["_law_kind", "_law_t"] (defScope s__law_rows) := ⟨rfl, rfl, rfl, by decide +kernel, rfl, by decide +kernel, by decide +kernel⟩
abbrev s__law_far_of : Stmt := top 38
theorem sc__law_far_of : FnScope ["_law_number", "_law_most"] ["_law_number", "_law_most"] (defScope s__law_far_of) := ⟨rfl, rfl, rfl, by decide +kernel, rfl, by decide +kernel, by decide +kernel⟩
abbrev s_law : Stmt := top 39
theorem sc_law : FnScope ["_law_script", "_law_k", "_law_row", "_law_some", "_law_kind", "_law_t", "_law_plan", "_law_rows_here", "_law_at", "_law_table"] ["_law_script"] (defScope s_law) := ⟨rfl, rfl, rfl, by decide +kernel, rfl, by decide +kernel, by decide +kernel⟩
abbrev s_Plan____init__ : Stmt := inClass (top 24) 0
theorem sc_Plan____init__ : FnScope ["self", "kind", "tables"] ["self", "kind", "tables"] (defScope s_Plan____init__) := ⟨rfl, rfl, rfl, by decide +kernel, rfl, by decide +kernel, by decide +kernel⟩
abbrev s_Plan__rounds : Stmt := inClass (top 24) 1
theorem sc_Plan__rounds : FnScope ["self"] ["self"] (defScope s_Plan__rounds) := ⟨rfl, rfl, rfl, by decide +kernel, rfl, by decide +kernel, by decide +kernel⟩
abbrev s_Plan__sets : Stmt := inClass (top 24) 2
theorem sc_Plan__sets : FnScope ["self"] ["self"] (defScope s_Plan__sets) := ⟨rfl, rfl, rfl, by decide +kernel, rfl, by decide +kernel, by decide +kernel⟩
abbrev s_Plan__pairs : Stmt := inClass (top 24) 3
theorem sc_Plan__pairs : FnScope ["self"] ["self"] (defScope s_Plan__pairs) := ⟨rfl, rfl, rfl, by decide +kernel, rfl, by decide +kernel, by decide +kernel⟩
abbrev s_Plan__need_round : Stmt := inClass (top 24) 4
theorem sc_Plan__need_round : FnScope ["self", "at"] ["self", "at"] (defScope s_Plan__need_round) := ⟨rfl, rfl, rfl, by decide +kernel, rfl, by decide +kernel, by decide +kernel⟩
abbrev s_Plan__need_table : Stmt := inClass (top 24) 5
theorem sc_Plan__need_table : FnScope ["self", "table"] ["self", "table"] (defScope s_Plan__need_table) := ⟨rfl, rfl, rfl, by decide +kernel, rfl, by decide +kernel, by decide +kernel⟩
abbrev s_Plan__need_pair : Stmt := inClass (top 24) 6
theorem sc_Plan__need_pair : FnScope ["self", "pair"] ["self", "pair"] (defScope s_Plan__need_pair) := ⟨rfl, rfl, rfl, by decide +kernel, rfl, by decide +kernel, by decide +kernel⟩
abbrev s_Plan__field : Stmt := inClass (top 24) 8
theorem sc_Plan__field : FnScope ["self", "pair"] ["self", "pair"] (defScope s_Plan__field) := ⟨rfl, rfl, rfl, by decide +kernel, rfl, by decide +kernel, by decide +kernel⟩
abbrev s_Plan__seat : Stmt := inClass (top 24) 9
theorem sc_Plan__seat : FnScope ["self", "at", "table"] ["self", "at", "table"] (defScope s_Plan__seat) := ⟨rfl, rfl, rfl, by decide +kernel, rfl, by decide +kernel, by decide +kernel⟩
abbrev s_Plan__two_field_seat : Stmt := inClass (top 24) 11
theorem sc_Plan__two_field_seat : FnScope ["self", "at", "table", "t", "half", "back", "ahead"] ["self", "at", "table"] (defScope s_Plan__two_field_seat) := ⟨rfl, rfl, rfl, by decide +kernel, rfl, by decide +kernel, by decide +kernel⟩
abbrev s_StandError____init__ : Stmt := inClass (top 2) 0
theorem sc_StandError____init__ : FnScope ["self", "word"] ["self", "word"] (defScope s_StandError____init__) := ⟨rfl, rfl, rfl, by decide +kernel, rfl, by decide +kernel, by decide +kernel⟩
abbrev s_BadPlan____init__ : Stmt := inClass (top 5) 0
theorem sc_BadPlan____init__ : FnScope ["self"] ["self"] (defScope s_BadPlan____init__) := ⟨rfl, rfl, rfl, by decide +kernel, rfl, by decide +kernel, by decide +kernel⟩
abbrev s_NoRound____init__ : Stmt := inClass (top 6) 0
theorem sc_NoRound____init__ : FnScope ["self"] ["self"] (defScope s_NoRound____init__) := ⟨rfl, rfl, rfl, by decide +kernel, rfl, by decide +kernel, by decide +kernel⟩
abbrev s_NoTable____init__ : Stmt := inClass (top 7) 0
theorem sc_NoTable____init__ : FnScope ["self"] ["self"] (defScope s_NoTable____init__) := ⟨rfl, rfl, rfl, by decide +kernel, rfl, by decide +kernel, by decide +kernel⟩
abbrev s_NoPair____init__ : Stmt := inClass (top 8) 0
theorem sc_NoPair____init__ : FnScope ["self"] ["self"] (defScope s_NoPair____init__) := ⟨rfl, rfl, rfl, by decide +kernel, rfl, by decide +kernel, by decide +kernel⟩
abbrev tb_TABLES_OF : List (List Nat × List Int) := [([115, 116, 114, 97, 105, 103, 104, 116], [3, 5, 7, 9]), ([115, 107, 105, 112], [4, 6, 8]), ([115, 104, 97, 114, 101, 100], [4, 6, 8]), ([114, 105, 110, 103], [2, 3, 4, 5, 6])]
def t_trios_of : List S := [(.ife (.pr .ne [(.var 0), (.cst (.str [114, 105, 110, 103]))]) [(.ret (.pr .lst []))] []),
    never,
    never]
def t_Plan____init__ : List S := [(.ife (.pr (.tab tb_TABLES_OF) [(.var 2), (.var 1)]) [(.raise 0 [98, 97, 100, 32, 112, 108, 97, 110])] []),
    (.setf 50 (.var 0) [107, 105, 110, 100] (.var 1)),
    (.setf 50 (.var 0) [116, 97, 98, 108, 101, 115] (.var 2)),
    (.setf 50 (.var 0) [116, 114, 105, 111, 115] (.call 0 [(.var 1), (.var 2)]))]
def t_Plan__rounds : List S := [(.ife (.pr .eq [(.fld 50 (.var 0) [107, 105, 110, 100]), (.cst (.str [115, 107, 105, 112]))]) [(.ret (.pr .sub [(.fld 50 (.var 0) [116, 97, 98, 108, 101, 115]), (.cst (.int 1))]))] []),
    (.ret (.meth 50 [115, 101, 116, 115] 3 (.var 0) []))]
def t_Plan__sets : List S := [(.ife (.pr .eq [(.fld 50 (.var 0) [107, 105, 110, 100]), (.cst (.str [114, 105, 110, 103]))]) [(.ret (.pr .sub [(.pr .mul [(.cst (.int 2)), (.fld 50 (.var 0) [116, 97, 98, 108, 101, 115])]), (.cst (.int 1))]))] []),
    (.ret (.fld 50 (.var 0) [116, 97, 98, 108, 101, 115]))]
def t_Plan__pairs : List S := [(.ret (.pr .mul [(.cst (.int 2)), (.fld 50 (.var 0) [116, 97, 98, 108, 101, 115])]))]
def t_Plan__need_round : List S := [(.ife (.or (.pr .lt [(.var 1), (.cst (.int 0))]) (.pr .ge [(.var 1), (.meth 50 [114, 111, 117, 110, 100, 115] 2 (.var 0) [])])) [(.raise 1 [110, 111, 32, 114, 111, 117, 110, 100])] [])]
def t_Plan__need_table : List S := [(.ife (.or (.pr .lt [(.var 1), (.cst (.int 0))]) (.pr .ge [(.var 1), (.fld 50 (.var 0) [116, 97, 98, 108, 101, 115])])) [(.raise 2 [110, 111, 32, 116, 97, 98, 108, 101])] [])]
def t_Plan__need_pair : List S := [(.ife (.or (.pr .lt [(.var 1), (.cst (.int 0))]) (.pr .ge [(.var 1), (.meth 50 [112, 97, 105, 114, 115] 4 (.var 0) [])])) [(.raise 3 [110, 111, 32, 112, 97, 105, 114])] [])]
def t_Plan__field : List S := [(.expr (.meth 50 [110, 101, 101, 100, 95, 112, 97, 105, 114] 7 (.var 0) [(.var 1)])),
    (.ife (.or (.pr .eq [(.fld 50 (.var 0) [107, 105, 110, 100]), (.cst (.str [114, 105, 110, 103]))]) (.pr .lt [(.var 1), (.fld 50 (.var 0) [116, 97, 98, 108, 101, 115])])) [(.ret (.cst (.int 0)))] []),
    (.ret (.cst (.int 1)))]
def t_Plan__seat : List S := [(.expr (.meth 50 [110, 101, 101, 100, 95, 114, 111, 117, 110, 100] 5 (.var 0) [(.var 1)])),
    (.expr (.meth 50 [110, 101, 101, 100, 95, 116, 97, 98, 108, 101] 6 (.var 0) [(.var 2)])),
    (.ife (.pr .eq [(.fld 50 (.var 0) [107, 105, 110, 100]), (.cst (.str [114, 105, 110, 103]))]) [never] []),
    (.ret (.meth 50 [116, 119, 111, 95, 102, 105, 101, 108, 100, 95, 115, 101, 97, 116] 10 (.var 0) [(.var 1), (.var 2)]))]
def t_Plan__two_field_seat : List S := [(.asg (.nm 3) (.fld 50 (.var 0) [116, 97, 98, 108, 101, 115])),
    (.asg (.nm 4) (.pr .fdiv [(.var 3), (.cst (.int 2))])),
    (.asg (.nm 5) (.ite (.and (.pr .eq [(.fld 50 (.var 0) [107, 105, 110, 100]), (.cst (.str [115, 107, 105, 112]))]) (.pr .ge [(.var 1), (.var 4)])) (.pr .add [(.var 1), (.cst (.int 1))]) (.var 1))),
    (.asg (.nm 6) (.ite (.and (.pr .eq [(.fld 50 (.var 0) [107, 105, 110, 100]), (.cst (.str [115, 104, 97, 114, 101, 100]))]) (.pr .ge [(.var 2), (.var 4)])) (.pr .add [(.var 1), (.cst (.int 1))]) (.var 1))),
    (.ret (.pr .tup [(.var 2), (.pr .add [(.var 3), (.pr .mod [(.pr .sub [(.var 2), (.var 5)]), (.var 3)])]), (.pr .mod [(.pr .add [(.var 2), (.var 6)]), (.var 3)])]))]
def t__law_rows : List S := [(.ife (.pr .eq [(.var 0), (.cst (.str [114, 105, 110, 103]))]) [never] []),
    (.asg (.nm 2) (.pr .lst [])),
    (.for_ (.rng1 [(.ite (.pr .eq [(.var 0), (.cst (.str [115, 107, 105, 112]))]) (.pr .sub [(.var 1), (.cst (.int 1))]) (.var 1))]) (.nm 3) [(.asg (.nm 4) (.ite (.and (.pr .eq [(.var 0), (.cst (.str [115, 107, 105, 112]))]) (.pr .ge [(.pr .mul [(.cst (.int 2)), (.var 3)]), (.var 1)])) (.pr .add [(.var 3), (.cst (.int 1))]) (.var 3))),
    (.asg (.nm 5) (.pr .lst [])),
    (.for_ (.rng1 [(.var 1)]) (.nm 6) [(.asg (.nm 7) (.ite (.and (.pr .eq [(.var 0), (.cst (.str [115, 104, 97, 114, 101, 100]))]) (.pr .ge [(.pr .mul [(.cst (.int 2)), (.var 6)]), (.var 1)])) (.cst (.int 1)) (.cst (.int 0)))),
    (.expr (.lm .append (.var 5) [(.pr .tup [(.var 6), (.pr .add [(.var 1), (.pr .mod [(.pr .sub [(.var 6), (.var 4)]), (.var 1)])]), (.pr .mod [(.pr .add [(.pr .add [(.var 6), (.var 3)]), (.var 7)]), (.var 1)])])]))]),
    (.expr (.lm .append (.var 2) [(.var 5)]))]),
    (.ret (.var 2))]
def t__law_far_of : List S := [(.ret (.pr .ix [(.pr .lst [(.pr .neg [(.cst (.int 1))]), (.var 1), (.pr .add [(.var 1), (.cst (.int 1))]), (.pr .pow [(.cst (.int 10)), (.cst (.int 40))]), (.pr .neg [(.pr .pow [(.cst (.int 10)), (.cst (.int 40))])])]), (.pr .mod [(.var 0), (.cst (.int 5))])]))]
def Pg : List Fn := [.mk 2 4 t_trios_of, .mk 3 3 t_Plan____init__, .mk 1 1 t_Plan__rounds, .mk 1 1 t_Plan__sets, .mk 1 1 t_Plan__pairs, .mk 2 2 t_Plan__need_round, .mk 2 2 t_Plan__need_table, .mk 2 2 t_Plan__need_pair, .mk 2 2 t_Plan__field, .mk 3 3 t_Plan__seat, .mk 3 7 t_Plan__two_field_seat, .mk 2 8 t__law_rows, .mk 2 2 t__law_far_of]
structure Adr where
  f_trios_of : Addr
  d_trios_of : FuncData
  f__law_mixed : Addr
  d__law_mixed : FuncData
  f__law_draw : Addr
  d__law_draw : FuncData
  f__law_cell : Addr
  d__law_cell : FuncData
  f__law_num : Addr
  d__law_num : FuncData
  f__law_same : Addr
  d__law_same : FuncData
  f__law_told : Addr
  d__law_told : FuncData
  f__law_rows : Addr
  d__law_rows : FuncData
  f__law_far_of : Addr
  d__law_far_of : FuncData
  f_law : Addr
  d_law : FuncData
  f_Plan____init__ : Addr
  d_Plan____init__ : FuncData
  f_Plan__rounds : Addr
  d_Plan__rounds : FuncData
  f_Plan__sets : Addr
  d_Plan__sets : FuncData
  f_Plan__pairs : Addr
  d_Plan__pairs : FuncData
  f_Plan__need_round : Addr
  d_Plan__need_round : FuncData
  f_Plan__need_table : Addr
  d_Plan__need_table : FuncData
  f_Plan__need_pair : Addr
  d_Plan__need_pair : FuncData
  f_Plan__field : Addr
  d_Plan__field : FuncData
  f_Plan__seat : Addr
  d_Plan__seat : FuncData
  f_Plan__two_field_seat : Addr
  d_Plan__two_field_seat : FuncData
  f_StandError____init__ : Addr
  d_StandError____init__ : FuncData
  f_BadPlan____init__ : Addr
  d_BadPlan____init__ : FuncData
  f_NoRound____init__ : Addr
  d_NoRound____init__ : FuncData
  f_NoTable____init__ : Addr
  d_NoTable____init__ : FuncData
  f_NoPair____init__ : Addr
  d_NoPair____init__ : FuncData
  c_StandError : Addr
  c_BadPlan : Addr
  c_NoRound : Addr
  c_NoTable : Addr
  c_NoPair : Addr
  c_Plan : Addr
  g_TABLES_OF : Addr
  tbl : Addr
  code : Addr
def cn (a : Adr) : Cn where
  c := fun k => match k with | 0 => a.c_BadPlan | 1 => a.c_NoRound | 2 => a.c_NoTable | 3 => a.c_NoPair | 50 => a.c_Plan | _ => 0
  P := a.tbl
  q := "law" ++ ".<locals>." ++ "<lambda>"
  on := true
structure Txt (w : World) (K : PySem.W.Frag) (mg : Str → Option Value) (a : Adr) : Prop where
  D_trios_of : Df K mg "trios_of" s_trios_of ["kind", "tables"] a.f_trios_of a.d_trios_of
  D__law_mixed : Df K mg "_law_mixed" s__law_mixed ["_law_seed", "_law_k"] a.f__law_mixed a.d__law_mixed
  D__law_draw : Df K mg "_law_draw" s__law_draw ["_law_cell_here", "_law_limits"] a.f__law_draw a.d__law_draw
  D__law_cell : Df K mg "_law_cell" s__law_cell ["_law_script", "_law_k"] a.f__law_cell a.d__law_cell
  D__law_num : Df K mg "_law_num" s__law_num ["_law_found"] a.f__law_num a.d__law_num
  D__law_same : Df K mg "_law_same" s__law_same ["_law_found", "_law_due"] a.f__law_same a.d__law_same
  D__law_told : Df K mg "_law_told" s__law_told ["_law_asked"] a.f__law_told a.d__law_told
  D__law_rows : Df K mg "_law_rows" s__law_rows ["_law_kind", "_law_t"] a.f__law_rows a.d__law_rows
  D__law_far_of : Df K mg "_law_far_of" s__law_far_of ["_law_number", "_law_most"] a.f__law_far_of a.d__law_far_of
  D_law : Df K mg "law" s_law ["_law_script"] a.f_law a.d_law
  M_Plan____init__ : Fun K "__init__" "Plan.__init__" s_Plan____init__ a.f_Plan____init__ a.d_Plan____init__
  B_Plan____init__ : Binds K a.d_Plan____init__ ["self", "kind", "tables"] []
  M_Plan__rounds : Fun K "rounds" "Plan.rounds" s_Plan__rounds a.f_Plan__rounds a.d_Plan__rounds
  B_Plan__rounds : Binds K a.d_Plan__rounds ["self"] []
  mt_Plan__rounds : Meth K ((cn a).c 50) "rounds" a.f_Plan__rounds
  M_Plan__sets : Fun K "sets" "Plan.sets" s_Plan__sets a.f_Plan__sets a.d_Plan__sets
  B_Plan__sets : Binds K a.d_Plan__sets ["self"] []
  mt_Plan__sets : Meth K ((cn a).c 50) "sets" a.f_Plan__sets
  M_Plan__pairs : Fun K "pairs" "Plan.pairs" s_Plan__pairs a.f_Plan__pairs a.d_Plan__pairs
  B_Plan__pairs : Binds K a.d_Plan__pairs ["self"] []
  mt_Plan__pairs : Meth K ((cn a).c 50) "pairs" a.f_Plan__pairs
  M_Plan__need_round : Fun K "need_round" "Plan.need_round" s_Plan__need_round a.f_Plan__need_round a.d_Plan__need_round
  B_Plan__need_round : Binds K a.d_Plan__need_round ["self", "at"] []
  mt_Plan__need_round : Meth K ((cn a).c 50) "need_round" a.f_Plan__need_round
  M_Plan__need_table : Fun K "need_table" "Plan.need_table" s_Plan__need_table a.f_Plan__need_table a.d_Plan__need_table
  B_Plan__need_table : Binds K a.d_Plan__need_table ["self", "table"] []
  mt_Plan__need_table : Meth K ((cn a).c 50) "need_table" a.f_Plan__need_table
  M_Plan__need_pair : Fun K "need_pair" "Plan.need_pair" s_Plan__need_pair a.f_Plan__need_pair a.d_Plan__need_pair
  B_Plan__need_pair : Binds K a.d_Plan__need_pair ["self", "pair"] []
  mt_Plan__need_pair : Meth K ((cn a).c 50) "need_pair" a.f_Plan__need_pair
  M_Plan__field : Fun K "field" "Plan.field" s_Plan__field a.f_Plan__field a.d_Plan__field
  B_Plan__field : Binds K a.d_Plan__field ["self", "pair"] []
  mt_Plan__field : Meth K ((cn a).c 50) "field" a.f_Plan__field
  M_Plan__seat : Fun K "seat" "Plan.seat" s_Plan__seat a.f_Plan__seat a.d_Plan__seat
  B_Plan__seat : Binds K a.d_Plan__seat ["self", "at", "table"] []
  mt_Plan__seat : Meth K ((cn a).c 50) "seat" a.f_Plan__seat
  M_Plan__two_field_seat : Fun K "two_field_seat" "Plan.two_field_seat" s_Plan__two_field_seat a.f_Plan__two_field_seat a.d_Plan__two_field_seat
  B_Plan__two_field_seat : Binds K a.d_Plan__two_field_seat ["self", "at", "table"] []
  mt_Plan__two_field_seat : Meth K ((cn a).c 50) "two_field_seat" a.f_Plan__two_field_seat
  M_StandError____init__ : Fun K "__init__" "StandError.__init__" s_StandError____init__ a.f_StandError____init__ a.d_StandError____init__
  B_StandError____init__ : Binds K a.d_StandError____init__ ["self", "word"] []
  M_BadPlan____init__ : Fun K "__init__" "BadPlan.__init__" s_BadPlan____init__ a.f_BadPlan____init__ a.d_BadPlan____init__
  B_BadPlan____init__ : Binds K a.d_BadPlan____init__ ["self"] []
  M_NoRound____init__ : Fun K "__init__" "NoRound.__init__" s_NoRound____init__ a.f_NoRound____init__ a.d_NoRound____init__
  B_NoRound____init__ : Binds K a.d_NoRound____init__ ["self"] []
  M_NoTable____init__ : Fun K "__init__" "NoTable.__init__" s_NoTable____init__ a.f_NoTable____init__ a.d_NoTable____init__
  B_NoTable____init__ : Binds K a.d_NoTable____init__ ["self"] []
  M_NoPair____init__ : Fun K "__init__" "NoPair.__init__" s_NoPair____init__ a.f_NoPair____init__ a.d_NoPair____init__
  B_NoPair____init__ : Binds K a.d_NoPair____init__ ["self"] []
  cls_Plan : Cls K ((cn a).c 50)
  na_Plan_kind : NoAttr K ((cn a).c 50) "kind"
  na_Plan_tables : NoAttr K ((cn a).c 50) "tables"
  na_Plan_trios : NoAttr K ((cn a).c 50) "trios"
  mk_Plan : Mk K ((cn a).c 50) a.f_Plan____init__
  mg_Plan : mg "Plan" = some (.ref ((cn a).c 50))
  xm_BadPlan : XMk K ((cn a).c 0) a.f_BadPlan____init__
  xs_BadPlan : XSub K ((cn a).c 0) a.c_StandError
  xn_BadPlan : NoAttr K ((cn a).c 0) "word"
  mg_BadPlan : mg "BadPlan" = some (.ref ((cn a).c 0))
  xm_NoRound : XMk K ((cn a).c 1) a.f_NoRound____init__
  xs_NoRound : XSub K ((cn a).c 1) a.c_StandError
  xn_NoRound : NoAttr K ((cn a).c 1) "word"
  mg_NoRound : mg "NoRound" = some (.ref ((cn a).c 1))
  xm_NoTable : XMk K ((cn a).c 2) a.f_NoTable____init__
  xs_NoTable : XSub K ((cn a).c 2) a.c_StandError
  xn_NoTable : NoAttr K ((cn a).c 2) "word"
  mg_NoTable : mg "NoTable" = some (.ref ((cn a).c 2))
  xm_NoPair : XMk K ((cn a).c 3) a.f_NoPair____init__
  xs_NoPair : XSub K ((cn a).c 3) a.c_StandError
  xn_NoPair : NoAttr K ((cn a).c 3) "word"
  mg_NoPair : mg "NoPair" = some (.ref ((cn a).c 3))
  xc_StandError : XCls K a.c_StandError
  ci_StandError : CI K a.c_StandError a.f_StandError____init__
  mg_StandError : mg "StandError" = some (.ref a.c_StandError)
  tab_TABLES_OF : TabK K w a.g_TABLES_OF tb_TABLES_OF
  mg_TABLES_OF : mg "TABLES_OF" = some (.ref a.g_TABLES_OF)
  z_ValueError : mg "ValueError" = none
  z_abs : mg "abs" = none
  z_all : mg "all" = none
  z_bool : mg "bool" = none
  z_int : mg "int" = none
  z_isinstance : mg "isinstance" = none
  z_len : mg "len" = none
  z_list : mg "list" = none
  z_range : mg "range" = none
  z_str : mg "str" = none
  z_tuple : mg "tuple" = none
theorem cm_left {i j : Int} (h1 : -(2 ^ 64) < i) (h2 : i < 2 ^ 64) : CMulX i j := .inl (.inl ⟨h1, h2⟩)
theorem cm_right {i j : Int} (h1 : -(2 ^ 64) < j) (h2 : j < 2 ^ 64) : CMulX i j := .inl (.inr ⟨h1, h2⟩)
section
variable {P : Program} {w : World} {K : PySem.W.Frag} {mg : Str → Option Value} {base : Heap}
theorem hXs {a : Adr} (T : Txt w K mg a) : ∀ C, C < 4 → XCls K ((cn a).c C) ∧ XSub K ((cn a).c C) a.c_StandError ∧ NoAttr K ((cn a).c C) "word"
  | 0, _ => ⟨T.xm_BadPlan.cls, T.xs_BadPlan, T.xn_BadPlan⟩
  | 1, _ => ⟨T.xm_NoRound.cls, T.xs_NoRound, T.xn_NoRound⟩
  | 2, _ => ⟨T.xm_NoTable.cls, T.xs_NoTable, T.xn_NoTable⟩
  | 3, _ => ⟨T.xm_NoPair.cls, T.xs_NoPair, T.xn_NoPair⟩
  | n + 4, h => absurd h (by omega)
theorem ok_StandError {a : Adr} (T : Txt w K mg a) : FnOk P w K mg base CX0 1 a.f_StandError____init__ a.d_StandError____init__ ["self", "word"] (spS K) := by
  refine T.M_StandError____init__.ok sc_StandError____init__ (fun vs H Q E h => ?_) (fun cdv A outer s H vs Q E hr h => ?_)
  · obtain ⟨_, _, _, rfl, _⟩ := h
    rfl
  obtain ⟨e, C, y, rfl, he, c, na, q⟩ := h
  refine ⟨_, (pss_cons (ps_expr (pe_xinit rfl T.z_ValueError (pa_cons (pv 0) (pa_cons (pv 1) pa_nil)))) (pss_one (ps_xset (pv 0) (pv 1)))), ?_⟩
  exact ⟨_, rfl, _, rfl, e, C, none, y, rfl, he, c, y, rfl, .ref e, rfl, e, C, rfl, he, c, na, q⟩
theorem ok_BadPlan {a : Adr} (T : Txt w K mg a) : FnOk P w K mg base CX0 2 a.f_BadPlan____init__ a.d_BadPlan____init__ ["self"] (spX ((cn a).c 0) [98, 97, 100, 32, 112, 108, 97, 110]) := by
  have F := ok_StandError (P := P) (base := base) T
  refine T.M_BadPlan____init__.ok sc_BadPlan____init__ (fun vs H Q E h => ?_) (fun cdv A outer s H vs Q E hr h => ?_)
  · obtain ⟨_, rfl, _⟩ := h
    rfl
  obtain ⟨e, rfl, he, q⟩ := h
  refine ⟨_, (pss_one (ps_expr (pe_cinit T.ci_StandError F (hr.mono (by omega)) rfl T.mg_StandError T.B_StandError____init__ pass0 (pa_cons (pv 0) (pa_cons pe_str pa_nil))))), ?_⟩
  refine ⟨_, rfl, e, ((cn a).c 0), _, rfl, he, T.xm_BadPlan.cls, T.xn_BadPlan, fun dx h1 h2 => ?_⟩
  have := q dx h1 h2
  rw [← word_eq] at this
  exact this
theorem ok_NoRound {a : Adr} (T : Txt w K mg a) : FnOk P w K mg base CX0 2 a.f_NoRound____init__ a.d_NoRound____init__ ["self"] (spX ((cn a).c 1) [110, 111, 32, 114, 111, 117, 110, 100]) := by
  have F := ok_StandError (P := P) (base := base) T
  refine T.M_NoRound____init__.ok sc_NoRound____init__ (fun vs H Q E h => ?_) (fun cdv A outer s H vs Q E hr h => ?_)
  · obtain ⟨_, rfl, _⟩ := h
    rfl
  obtain ⟨e, rfl, he, q⟩ := h
  refine ⟨_, (pss_one (ps_expr (pe_cinit T.ci_StandError F (hr.mono (by omega)) rfl T.mg_StandError T.B_StandError____init__ pass0 (pa_cons (pv 0) (pa_cons pe_str pa_nil))))), ?_⟩
  refine ⟨_, rfl, e, ((cn a).c 1), _, rfl, he, T.xm_NoRound.cls, T.xn_NoRound, fun dx h1 h2 => ?_⟩
  have := q dx h1 h2
  rw [← word_eq] at this
  exact this
theorem ok_NoTable {a : Adr} (T : Txt w K mg a) : FnOk P w K mg base CX0 2 a.f_NoTable____init__ a.d_NoTable____init__ ["self"] (spX ((cn a).c 2) [110, 111, 32, 116, 97, 98, 108, 101]) := by
  have F := ok_StandError (P := P) (base := base) T
  refine T.M_NoTable____init__.ok sc_NoTable____init__ (fun vs H Q E h => ?_) (fun cdv A outer s H vs Q E hr h => ?_)
  · obtain ⟨_, rfl, _⟩ := h
    rfl
  obtain ⟨e, rfl, he, q⟩ := h
  refine ⟨_, (pss_one (ps_expr (pe_cinit T.ci_StandError F (hr.mono (by omega)) rfl T.mg_StandError T.B_StandError____init__ pass0 (pa_cons (pv 0) (pa_cons pe_str pa_nil))))), ?_⟩
  refine ⟨_, rfl, e, ((cn a).c 2), _, rfl, he, T.xm_NoTable.cls, T.xn_NoTable, fun dx h1 h2 => ?_⟩
  have := q dx h1 h2
  rw [← word_eq] at this
  exact this
theorem ok_NoPair {a : Adr} (T : Txt w K mg a) : FnOk P w K mg base CX0 2 a.f_NoPair____init__ a.d_NoPair____init__ ["self"] (spX ((cn a).c 3) [110, 111, 32, 112, 97, 105, 114]) := by
  have F := ok_StandError (P := P) (base := base) T
  refine T.M_NoPair____init__.ok sc_NoPair____init__ (fun vs H Q E h => ?_) (fun cdv A outer s H vs Q E hr h => ?_)
  · obtain ⟨_, rfl, _⟩ := h
    rfl
  obtain ⟨e, rfl, he, q⟩ := h
  refine ⟨_, (pss_one (ps_expr (pe_cinit T.ci_StandError F (hr.mono (by omega)) rfl T.mg_StandError T.B_StandError____init__ pass0 (pa_cons (pv 0) (pa_cons pe_str pa_nil))))), ?_⟩
  refine ⟨_, rfl, e, ((cn a).c 3), _, rfl, he, T.xm_NoPair.cls, T.xn_NoPair, fun dx h1 h2 => ?_⟩
  have := q dx h1 h2
  rw [← word_eq] at this
  exact this
end
end
section
variable {P : Program} {w : World} {K : PySem.W.Frag} {mg : Str → Option Value} {base : Heap}
def spMixed : Sp := fun vs H Q _ => ∃ a k : Int, vs = [.int a, .int k] ∧ 0 ≤ a ∧ a < 2147483647 ∧ ∀ z : Int, 0 ≤ z → z < 2147483647 → Q (.int z) H
theorem ok__law_mixed {a : Adr} (T : Txt w K mg a) : FnOk P w K mg base CX0 1 a.f__law_mixed a.d__law_mixed ["_law_seed", "_law_k"] spMixed := by
  refine T.D__law_mixed.fn.ok sc__law_mixed (fun vs H Q E h => ?_) (fun cdv A outer s H vs Q E hr h => ?_)
  · obtain ⟨a, k, rfl, _⟩ := h
    rfl
  obtain ⟨x, k, rfl, h0, h1, q⟩ := h
  refine ⟨_, (pss_cons (ps_set (i := 2) sc__law_mixed.nd rfl (Or.inl rfl) (pe_op op_mod (pe_op op_mulX (pv 0) (pv 0)) pe_int))
    (pss_one (ps_ret (pe_op op_mod (pe_op op_add (pe_op op_add (pe_op op_mulX (pv 2) (pe_op op_add (pe_op op_mod (pv 0) pe_int) pe_int)) (pe_op op_mulX (pv 1) pe_int)) pe_int) pe_int)))), ?_⟩
  have m31 : (0 : Int) < 2147483647 := by decide
  refine ⟨_, rfl, _, rfl, _, _, rfl, rfl, cm_left (by omega) (by omega), _, _, rfl, rfl, m31, ?_⟩
  have s0 := Int.emod_nonneg (x * x) (show (2147483647 : Int) ≠ 0 by decide)
  have s1 := Int.emod_lt_of_pos (x * x) m31
  refine ⟨_, rfl, _, rfl, _, _, rfl, rfl, (by show (0 : Int) < 65521; decide), _, _, rfl, rfl, _, _, rfl, rfl, cm_left (by omega) (by omega), _, rfl, _, _, rfl, rfl, cm_right (by decide) (by decide), _, _, rfl, rfl, _, _, rfl, rfl, _, _, rfl, rfl, m31, ?_⟩
  exact q _ (Int.emod_nonneg _ (by decide)) (Int.emod_lt_of_pos _ m31)
def spDraw : Sp := fun vs H Q _ => ∃ (c : Int) (l : Addr) (ls : List Int), vs = [.int c, .ref l] ∧ H l = some (.lst (ls.map V.int)) ∧ ls.length ≤ 63 ∧ (∀ z ∈ ls, 0 < z ∧ Sml z) ∧
  ∀ (r : Addr) (ns : List Int) (H' : Hp), H r = none → Same H H' → Drawn ns ls → H' r = some (.lst (ns.map V.int)) → Q (.ref r) H'
theorem ok__law_draw {a : Adr} (T : Txt w K mg a) : FnOk P w K mg base CX0 2 a.f__law_draw a.d__law_draw ["_law_cell_here", "_law_limits"] spDraw := by
  have G__law_mixed := ok__law_mixed (P := P) (w := w) (base := base) T
  refine T.D__law_draw.fn.ok sc__law_draw (fun vs H Q E h => ?_) (fun cdv A outer s H vs Q E hr h => ?_)
  · obtain ⟨_, _, _, rfl, _⟩ := h
    rfl
  obtain ⟨c, l, ls, rfl, hl, h63, hz, q⟩ := h
  refine ⟨_, (pss_cons (ps_set (i := 2) sc__law_draw.nd rfl (Or.inl rfl) (pe_ifExp (pt_cmpR op_ge (pv 0) (pe_op op_pow pe_int pe_int) (nomark _)) (pv 0) pe_int))
    (pss_cons (ps_set (i := 3) sc__law_draw.nd rfl (Or.inl rfl) (pe_op op_mod (pe_op op_add (pe_op op_mulX (pe_callB call_abs rfl T.z_abs boot_abs (pa_cons (pv 0) pa_nil)) pe_int) pe_int) pe_int))
    (pss_cons (ps_set (i := 4) sc__law_draw.nd rfl (Or.inl rfl) (pe_lst pa_nil))
    (pss_cons (ps_for PassesOwn.never rfl (pi_list (pv 1)) (pg_name (i := 5) sc__law_draw.nd rfl (Or.inl rfl))
      (pss_one (ps_if (pt_cmpR op_gt (pv 2) pe_int (nomark _)) (pss_cons (ps_expr (pe_bm PySem.F.plainAttrs_list PySem.F.slot_list_append PySem.F.type_list_append mt_append (pv 4) (pa_cons (pe_op op_mod (pv 2) (pv 5)) pa_nil)))
        (pss_one (ps_set (i := 2) sc__law_draw.nd rfl (Or.inl rfl) (pe_op op_fdivX (pv 2) (pv 5))))) (pss_cons (ps_set (i := 3) sc__law_draw.nd rfl (Or.inl rfl) (pe_cd T.D__law_mixed G__law_mixed (hr.mono (by omega)) rfl (pa_cons (pv 3) (pa_cons (pe_callB call_len_seq rfl T.z_len boot_len (pa_cons (pv 4) pa_nil)) pa_nil))))
        (pss_one (ps_expr (pe_bm PySem.F.plainAttrs_list PySem.F.slot_list_append PySem.F.type_list_append mt_append (pv 4) (pa_cons (pe_op op_mod (pe_op op_fdivX (pv 3) pe_int) (pv 5)) pa_nil))))))))
    (pss_one (ps_ret (pv 4))))))), ?_⟩
  have m31 : (0 : Int) < 2147483647 := by decide
  have s31 : Sml 61 := by unfold Sml; exact Nat.lt_of_lt_of_le (show (61 : Int).natAbs < 2 ^ 10 by decide) (Nat.pow_le_pow_right (by decide) (by decide))
  -- rest
  refine ⟨_, rfl, _, _, rfl, rfl, (by show CPow 10 18; exact ⟨by decide, by decide, by decide⟩), _, _, rfl, rfl, _, rfl, ?_⟩
  refine ite2 (fun cc => ?gA) (fun cc => ?gB)
  case' gA =>
    have c0 : (0 : Int) ≤ c := by
      have z : (10 : Int) ^ (18 : Int).toNat ≤ c := of_decide_eq_true cc
      have z2 : (0 : Int) ≤ (10 : Int) ^ (18 : Int).toNat := by decide
      omega
    refine ⟨_, rfl, ?_⟩
  case' gB => have c0 : (0 : Int) ≤ 0 := by decide
  all_goals
    refine ⟨_, rfl, _, rfl, _, _, rfl, rfl, cm_right (by decide) (by decide), _, _, rfl, rfl, _, _, rfl, rfl, m31, ?_⟩
    refine ⟨(by show 0 ≤ sizeLine; decide), fun r hr' => ?_⟩
    have g0 : Same H (upd H r (.lst [])) := same_new hr' _
    refine ⟨_, rfl, l, rfl, ⟨_, SqL.of (g0 _ _ hl)⟩, for_list (K := K) (a := l) (xs := ls.map V.int) (fun i σ H2 => ∃ (rest seed : Int) (ns : List Int) (v : Option V), σ = [some (.int c), some (.ref l), some (.int rest), some (.int seed), some (.ref r), v] ∧
      0 ≤ rest ∧ 0 ≤ seed ∧ seed < 2147483647 ∧ Same H H2 ∧ H2 r = some (.lst (ns.map V.int)) ∧ Drawn ns (ls.take i))
      ⟨_, _, [], none, rfl, c0, Int.emod_nonneg _ (by decide), Int.emod_lt_of_pos _ m31, g0, upd_same, by simpa using Paired.nil⟩ (fun i σ H2 _ ⟨_, _, _, _, _, _, _, _, s2, _⟩ => SqL.of (s2 _ _ hl)) ?_ ?_⟩
    · rintro i y σ H2 hi ⟨rest, seed, ns, v, rfl, r0, s0, s1, s2, hr2, hD⟩
      obtain ⟨z, hzi, rfl⟩ : ∃ z, ls[i]? = some z ∧ y = V.int z := by
        rw [List.getElem?_map] at hi
        cases e : ls[i]? with
        | none => rw [e] at hi; cases hi
        | some z => rw [e] at hi; exact ⟨z, rfl, (Option.some.inj hi).symm⟩
      obtain ⟨z0, zS⟩ := hz z (List.mem_of_getElem? hzi)
      have hil : i < ls.length := (List.getElem?_eq_some_iff.mp hzi).1
      have hlen : ns.length = i := by have := hD.length; rw [List.length_take] at this; omega
      have hlt : (ns.map V.int).length < sizeLine := by rw [List.length_map]; exact small1000 (by omega)
      have nlr : r ≠ l := fun e => by rw [e] at hr'; rw [hl] at hr'; cases hr'
      have etk : ls.take (i + 1) = ls.take i ++ [z] := by rw [List.take_add_one, hzi]; rfl
      have next : ∀ v : Int, 0 ≤ v → v < z → Drawn (ns ++ [v]) (ls.take (i + 1)) := fun v h0 h1 => by rw [etk]; exact hD.snoc ⟨h0, h1⟩
      have same2 : ∀ o, Same H (upd H2 r o) := fun o b u e => by rw [upd_ne (ne_of_none e hr')]; exact s2 _ _ e
      have em : ∀ v : Int, ns.map V.int ++ [V.int v] = (ns ++ [v]).map V.int := fun v => by rw [List.map_append]; rfl
      refine ⟨_, rfl, _, _, rfl, rfl, _, rfl, ?_⟩
      refine ite2 (fun cr => ?_) (fun cr => ?_)
      · have cr' : 0 < rest := of_decide_eq_true cr
        refine ⟨_, rfl, .inl ⟨rfl, _, SqL.of hr2⟩, _, rfl, _, rfl, _, _, rfl, rfl, z0, r, _, _, rfl, rfl, hr2, hlt, ?_⟩
        refine ⟨_, rfl, _, rfl, _, _, rfl, rfl, ⟨by omega, zS⟩, ?_⟩
        refine ⟨_, seed, ns ++ [rest % z], _, rfl, Int.fdiv_nonneg r0 (by omega), s0, s1, same2 _, by rw [upd_same, em], next _ (Int.emod_nonneg _ (by omega)) (Int.emod_lt_of_pos _ z0)⟩
      · refine ⟨_, rfl, _, rfl, r, _, rfl, .inl (SqL.of hr2), _, _, rfl, s0, s1, fun sd sd0 sd1 => ?_⟩
        refine ⟨_, rfl, .inl ⟨rfl, _, SqL.of hr2⟩, _, rfl, _, _, rfl, rfl, ⟨by decide, s31⟩, _, rfl, _, _, rfl, rfl, z0, r, _, _, rfl, rfl, hr2, hlt, ?_⟩
        refine ⟨rest, sd, ns ++ [(sd.fdiv 61) % z], _, rfl, r0, sd0, sd1, same2 _, by rw [upd_same, em], next _ (Int.emod_nonneg _ (by omega)) (Int.emod_lt_of_pos _ z0)⟩
    · rintro σ H2 ⟨rest, seed, ns, v, rfl, r0, s0, s1, s2, hr2, hD⟩
      rw [List.length_map, List.take_length] at hD
      exact ⟨_, rfl, q r ns H2 hr' s2 hD hr2⟩
def spCell (K : PySem.W.Frag) : Sp := fun vs H Q _ => ∃ (a : Addr) (ns : List Int) (k : Int), vs = [.ref a, .int k] ∧ SqL K H a (ns.map V.int) ∧ ns.length ≤ 63 ∧ 0 ≤ k ∧ ∀ z : Int, Q (.int z) H
theorem int_at {ns : List Int} {k : Int} (h0 : 0 ≤ k) (h1 : k < (ns.length : Int)) : ∃ z : Int, atI (ns.map V.int) k = some (.int z) := by
  have hk : k.toNat < ns.length := by omega
  have ek : k = ((k.toNat : Nat) : Int) := by omega
  have q : atI (ns.map V.int) ((k.toNat : Nat) : Int) = some (.int ns[k.toNat]) := atI_nat (by rw [List.getElem?_map, List.getElem?_eq_getElem hk] <;> rfl)
  rw [← ek] at q
  exact ⟨_, q⟩
theorem ok__law_cell {a : Adr} (T : Txt w K mg a) : FnOk P w K mg base CX0 1 a.f__law_cell a.d__law_cell ["_law_script", "_law_k"] (spCell K) := by
  refine T.D__law_cell.fn.ok sc__law_cell (fun vs H Q E h => ?_) (fun cdv A outer s H vs Q E hr h => ?_)
  · obtain ⟨_, _, _, rfl, _⟩ := h
    rfl
  obtain ⟨l, ns, k, rfl, hS, h63, k0, q⟩ := h
  refine ⟨_, (pss_cons (ps_if (pt_cmpR op_lt (pv 1) (pe_callB call_len_seq rfl T.z_len boot_len (pa_cons (pv 0) pa_nil)) (nomark _)) (pss_one (ps_ret (pe_ix ix_list (pv 0) (pv 1) (fun _ _ => rfl)))) pss_nil)
    (pss_cons (ps_if (pt_cmpR op_eq (pe_callB call_len_seq rfl T.z_len boot_len (pa_cons (pv 0) pa_nil)) pe_int (nomark _)) (pss_one (ps_ret (pe_op op_mulX pe_int (pv 1)))) pss_nil)
    (pss_one (ps_ret (pe_op op_add (pe_ix ix_list (pv 0) (pe_op op_mod (pv 1) (pe_callB call_len_seq rfl T.z_len boot_len (pa_cons (pv 0) pa_nil))) (fun _ _ => rfl)) (pe_op op_mulX pe_int (pv 1))))))), ?_⟩
  have hl : (ns.map V.int).length = ns.length := List.length_map _
  refine ⟨_, rfl, _, rfl, l, _, rfl, .inl hS, _, _, rfl, rfl, _, rfl, ?_⟩
  refine ite2 (fun c => ?_) (fun c => ?_)
  · have c' : k < (((ns.map V.int).length : Nat) : Int) := of_decide_eq_true c
    rw [hl] at c'
    obtain ⟨z, hz⟩ := int_at k0 c'
    exact ⟨_, rfl, _, rfl, l, _, _, _, rfl, rfl, hS, hz, q z⟩
  · refine ⟨_, rfl, l, _, rfl, .inl hS, rfl, _, rfl, ?_⟩
    refine ite2 (fun c2 => ?_) (fun c2 => ?_)
    · exact ⟨_, rfl, _, _, rfl, rfl, cm_left (by decide) (by decide), q _⟩
    · have c3 : ¬ V.int (((ns.map V.int).length : Nat) : Int) = V.int 0 := fun z => c2 (decide_eq_true z)
      have c4 : 0 < ns.length := by
        rw [hl] at c3
        rcases Nat.eq_zero_or_pos ns.length with z | z
        · rw [z] at c3; exact absurd rfl c3
        · exact z
      have p0 : (0 : Int) < (((ns.map V.int).length : Nat) : Int) := by rw [hl]; omega
      obtain ⟨z, hz⟩ := int_at (ns := ns) (k := k % (((ns.map V.int).length : Nat) : Int)) (Int.emod_nonneg _ (by omega)) (by have := Int.emod_lt_of_pos k p0; rw [hl] at this ⊢; exact this)
      exact ⟨_, rfl, _, rfl, _, rfl, l, _, rfl, .inl hS, _, _, rfl, rfl, p0, l, _, _, _, rfl, rfl, hS, hz, _, rfl, _, _, rfl, rfl, cm_left (by decide) (by decide), _, _, rfl, rfl, q _⟩

theorem sameAll_len : ∀ {xs ys : List PyData}, xs.length ≠ ys.length → PySem.Spec.sameAll xs ys = false
  | [], [], h => absurd rfl h
  | [], _ :: _, _ => by simp [PySem.Spec.sameAll]
  | _ :: _, [], _ => by simp [PySem.Spec.sameAll]
  | x :: xs, y :: ys, h => by
    simp only [PySem.Spec.sameAll]
    rw [sameAll_len (xs := xs) (ys := ys) (by simpa using h), Bool.and_false]
theorem sameAll_zip : ∀ {xs ys : List PyData}, xs.length = ys.length → PySem.Spec.sameAll xs ys = (List.zipWith PySem.Spec.same xs ys).all id
  | [], [], _ => by simp [PySem.Spec.sameAll]
  | [], _ :: _, h => by simp at h
  | _ :: _, [], h => by simp at h
  | x :: xs, y :: ys, h => by
    simp only [PySem.Spec.sameAll, List.zipWith_cons_cons, List.all_cons, id]
    rw [sameAll_zip (xs := xs) (ys := ys) (by simpa using h)]
def spNumD : Sp := fun vs H Q _ => ∃ (x : V) (d : PyData), vs = [x] ∧ Rep H x d ∧ Q (.bl (match d with | .int _ => true | _ => false)) H
theorem ok__law_num {a : Adr} (T : Txt w K mg a) : FnOk P w K mg base CX0 1 a.f__law_num a.d__law_num ["_law_found"] spNumD := by
  refine T.D__law_num.fn.ok sc__law_num (fun vs H Q E h => ?_) (fun cdv A outer s H vs Q E hr h => ?_)
  · obtain ⟨_, _, rfl, _⟩ := h
    rfl
  obtain ⟨x, d, rfl, rx, q⟩ := h
  refine ⟨_, (pss_one (ps_ret (pe_and (pe_callB call_isi rfl T.z_isinstance boot_isinstance (pa_cons (pv 0) (pa_cons (pe_bltn (v := .ty "int") rfl T.z_int boot_int rfl) pa_nil))) (pe_one (pe_not (pe_callB call_isi rfl T.z_isinstance boot_isinstance (pa_cons (pv 0) (pa_cons (pe_bltn (v := .ty "bool") rfl T.z_bool boot_bool rfl) pa_nil)))))))), ?_⟩
  have ty := rx.ty (K := K)
  cases rx with
  | int i =>
    refine ⟨_, rfl, _, "int", _, true, rfl, ty, rfl, true, rfl, ?_⟩
    refine iteT ?_
    exact ⟨_, rfl, _, "bool", _, false, rfl, ty, rfl, false, rfl, q⟩
  | bl b =>
    refine ⟨_, rfl, _, "int", _, true, rfl, ty, rfl, true, rfl, ?_⟩
    refine iteT ?_
    exact ⟨_, rfl, _, "bool", _, true, rfl, ty, rfl, true, rfl, q⟩
  | non => exact ⟨_, rfl, _, "int", _, false, rfl, ty, rfl, false, rfl, iteF q⟩
  | str z => exact ⟨_, rfl, _, "int", _, false, rfl, ty, rfl, false, rfl, iteF q⟩
  | lst e t => exact ⟨_, rfl, _, "int", _, false, rfl, ty, rfl, false, rfl, iteF q⟩
  | tup e t => exact ⟨_, rfl, _, "int", _, false, rfl, ty, rfl, false, rfl, iteF q⟩
def spSame (n : Nat) : Sp := fun vs H Q _ => ∃ (x y : V) (dx dy : PyData), vs = [x, y] ∧ Rep H x dx ∧ Rep H y dy ∧ dy.depth < n ∧ ∀ H', Same H H' → Q (.bl (PySem.Spec.same dx dy)) H'
theorem same_none {f : Addr} {fd : FuncData} : FnOk P w K mg base CX0 2 f fd ["_law_found", "_law_due"] (spSame 0) := by
  have no : ∀ vs H Q E, ¬ spSame 0 vs H Q E := fun vs H Q E h => by
    obtain ⟨_, _, _, _, _, _, _, h, _⟩ := h
    exact absurd h (Nat.not_lt_zero _)
  exact ⟨fun vs H Q E h => absurd h (no vs H Q E), fun A outer s H args us vs Q E _ _ _ _ h => absurd h (no vs H Q E)⟩
theorem same_step {a : Adr} (T : Txt w K mg a) {n : Nat} (G__law_same : FnOk P w K mg base CX0 (n + 2) a.f__law_same a.d__law_same ["_law_found", "_law_due"] (spSame n)) :
    FnOk P w K mg base CX0 (n + 3) a.f__law_same a.d__law_same ["_law_found", "_law_due"] (spSame (n + 1)) := by
  have G__law_num := ok__law_num (P := P) (w := w) (base := base) T
  refine T.D__law_same.fn.ok sc__law_same (fun vs H Q E h => ?_) (fun cdv A outer s H vs Q E hr h => ?_)
  · obtain ⟨_, _, _, _, rfl, _⟩ := h
    rfl
  obtain ⟨x, y, dx, dy, rfl, rx, ry, hdep, q⟩ := h
  refine ⟨_, (pss_cons (ps_if (pt_cmp (pc_isN (pv 1))) (pss_one (ps_ret (pe_cmp (pc_isN (pv 0))))) pss_nil)
    (pss_cons (ps_if (pt_val (pe_callB call_isi rfl T.z_isinstance boot_isinstance (pa_cons (pv 1) (pa_cons (pe_bltn (v := .ty "bool") rfl T.z_bool boot_bool rfl) pa_nil)))) (pss_one (ps_ret (pe_and (pe_callB call_isi rfl T.z_isinstance boot_isinstance (pa_cons (pv 0) (pa_cons (pe_bltn (v := .ty "bool") rfl T.z_bool boot_bool rfl) pa_nil))) (pe_one (pe_cmpR op_eq (pv 0) (pv 1) (nomark _)))))) pss_nil)
    (pss_cons (ps_if (pt_val (pe_callB call_isi rfl T.z_isinstance boot_isinstance (pa_cons (pv 1) (pa_cons (pe_bltn (v := .ty "int") rfl T.z_int boot_int rfl) pa_nil)))) (pss_one (ps_ret (pe_and (pe_cd T.D__law_num G__law_num (hr.mono (by omega)) rfl (pa_cons (pv 0) pa_nil)) (pe_one (pe_cmpR op_eq (pv 0) (pv 1) (nomark _)))))) pss_nil)
    (pss_cons (ps_if (pt_val (pe_callB call_isi rfl T.z_isinstance boot_isinstance (pa_cons (pv 1) (pa_cons (pe_bltn (v := .ty "str") rfl T.z_str boot_str rfl) pa_nil)))) (pss_one (ps_ret (pe_and (pe_callB call_isi rfl T.z_isinstance boot_isinstance (pa_cons (pv 0) (pa_cons (pe_bltn (v := .ty "str") rfl T.z_str boot_str rfl) pa_nil))) (pe_one (pe_cmpR op_eq (pv 0) (pv 1) (nomark _)))))) pss_nil)
    (pss_cons (ps_if (PW.pt (pw_or (PW.pt (pw_and (pt_val (pe_callB call_isi rfl T.z_isinstance boot_isinstance (pa_cons (pv 1) (pa_cons (pe_bltn (v := .ty "tuple") rfl T.z_tuple boot_tuple rfl) pa_nil)))) (pw_and1 (pt_not (pt_val (pe_callB call_isi rfl T.z_isinstance boot_isinstance (pa_cons (pv 0) (pa_cons (pe_bltn (v := .ty "tuple") rfl T.z_tuple boot_tuple rfl) pa_nil)))))))) (pw_or1 (PW.pt (pw_and (pt_val (pe_callB call_isi rfl T.z_isinstance boot_isinstance (pa_cons (pv 1) (pa_cons (pe_bltn (v := .ty "list") rfl T.z_list boot_list rfl) pa_nil)))) (pw_and1 (pt_not (pt_val (pe_callB call_isi rfl T.z_isinstance boot_isinstance (pa_cons (pv 0) (pa_cons (pe_bltn (v := .ty "list") rfl T.z_list boot_list rfl) pa_nil))))))))))) (pss_one (ps_ret pe_bl)) pss_nil)
    (pss_one (ps_ret (pe_and (pe_cmpR op_eq (pe_callB call_lenZ rfl T.z_len boot_len (pa_cons (pv 0) pa_nil)) (pe_callB call_lenZ rfl T.z_len boot_len (pa_cons (pv 1) pa_nil)) (nomark _)) (pe_one (pe_callB (call_allL rfl) rfl T.z_all boot_all (pa_cons (pe_comp (blk_ok (N' := ["_law_k", "_law_found", "_law_due"]) (nt := 1) (idx := [0, 1]) (N := ["_law_found", "_law_due"]) (osc := defScope s__law_same) rfl rfl (by decide +kernel)) rfl (pi_range1 rfl T.z_range (pa_cons (pe_callB call_lenZ rfl T.z_len boot_len (pa_cons (pv 1) pa_nil)) pa_nil)) (comp1 (fun _ _ _ _ => pg_name (i := 0) (show List.Nodup (["_law_k", "_law_found", "_law_due"] : List Str) by decide +kernel) rfl (Or.inl rfl)) (fun _ _ _ _ => pts_nil) (fun _ _ _ _ => (pe_cd T.D__law_same G__law_same (hr.mono (by omega)) rfl (pa_cons (pe_ix (ix_seqK (K := K) rfl) (pv 1) (pv 0) (fun _ _ => rfl)) (pa_cons (pe_ix (ix_seqK (K := K) rfl) (pv 2) (pv 0) (fun _ _ => rfl)) pa_nil)))))) pa_nil))))))))))), ?_⟩
  have tx := rx.ty (K := K)
  have ty := ry.ty (K := K)
  have q0 := q H (Same.refl H)
  refine ⟨_, rfl, _, rfl, ?_⟩
  cases ry with
  | non =>
    refine iteT ?_
    refine ⟨_, rfl, ?_⟩
    cases rx <;> exact q0
  | bl b =>
    refine iteF ?_
    refine ⟨_, rfl, _, "bool", _, true, rfl, ty, rfl, true, rfl, iteT ?_⟩
    cases rx with
    | bl c =>
      refine ⟨_, rfl, _, "bool", _, true, rfl, tx, rfl, true, rfl, iteT ?_⟩
      refine ⟨_, rfl, _, rfl, rfl, ?_⟩
      have e : decide (V.bl c = V.bl b) = (c == b) := dec_bl
      rw [e]
      simpa [PySem.Spec.same] using q0
    | non => exact ⟨_, rfl, _, "bool", _, false, rfl, tx, rfl, false, rfl, iteF q0⟩
    | int i => exact ⟨_, rfl, _, "bool", _, false, rfl, tx, rfl, false, rfl, iteF q0⟩
    | str z => exact ⟨_, rfl, _, "bool", _, false, rfl, tx, rfl, false, rfl, iteF q0⟩
    | lst e t => exact ⟨_, rfl, _, "bool", _, false, rfl, tx, rfl, false, rfl, iteF q0⟩
    | tup e t => exact ⟨_, rfl, _, "bool", _, false, rfl, tx, rfl, false, rfl, iteF q0⟩
  | int i =>
    refine iteF ?_
    refine ⟨_, rfl, _, "bool", _, false, rfl, ty, rfl, false, rfl, iteF ?_⟩
    refine ⟨_, rfl, _, "int", _, true, rfl, ty, rfl, true, rfl, iteT ?_⟩
    cases rx with
    | int j =>
      refine ⟨_, rfl, _, _, rfl, .int j, true, rfl, iteT ?_⟩
      refine ⟨_, rfl, _, rfl, rfl, ?_⟩
      have e : decide (V.int j = V.int i) = (j == i) := dec_int
      rw [e]
      simpa [PySem.Spec.same] using q0
    | non => exact ⟨_, rfl, _, _, rfl, .non, false, rfl, iteF q0⟩
    | bl c => exact ⟨_, rfl, _, _, rfl, .bl c, false, rfl, iteF q0⟩
    | str z => exact ⟨_, rfl, _, _, rfl, .str z, false, rfl, iteF q0⟩
    | lst e t => exact ⟨_, rfl, _, _, rfl, .lst e t, false, rfl, iteF q0⟩
    | tup e t => exact ⟨_, rfl, _, _, rfl, .tup e t, false, rfl, iteF q0⟩
  | str z =>
    refine iteF ?_
    refine ⟨_, rfl, _, "bool", _, false, rfl, ty, rfl, false, rfl, iteF ?_⟩
    refine ⟨_, rfl, _, "int", _, false, rfl, ty, rfl, false, rfl, iteF ?_⟩
    refine ⟨_, rfl, _, "str", _, true, rfl, ty, rfl, true, rfl, iteT ?_⟩
    cases rx with
    | str z' =>
      refine ⟨_, rfl, _, "str", _, true, rfl, tx, rfl, true, rfl, iteT ?_⟩
      refine ⟨_, rfl, _, rfl, rfl, ?_⟩
      have e : decide (V.str z' = V.str z) = (z' == z) := dec_str
      rw [e]
      simpa [PySem.Spec.same] using q0
    | non => exact ⟨_, rfl, _, "str", _, false, rfl, tx, rfl, false, rfl, iteF q0⟩
    | bl c => exact ⟨_, rfl, _, "str", _, false, rfl, tx, rfl, false, rfl, iteF q0⟩
    | int i => exact ⟨_, rfl, _, "str", _, false, rfl, tx, rfl, false, rfl, iteF q0⟩
    | lst e t => exact ⟨_, rfl, _, "str", _, false, rfl, tx, rfl, false, rfl, iteF q0⟩
    | tup e t => exact ⟨_, rfl, _, "str", _, false, rfl, tx, rfl, false, rfl, iteF q0⟩
  | @lst ay ys dys ey ryA =>
    refine iteF ?_
    refine ⟨_, rfl, _, "bool", _, false, rfl, ty, rfl, false, rfl, iteF ?_⟩
    refine ⟨_, rfl, _, "int", _, false, rfl, ty, rfl, false, rfl, iteF ?_⟩
    refine ⟨_, rfl, _, "str", _, false, rfl, ty, rfl, false, rfl, iteF ?_⟩
    refine ⟨_, rfl, _, "tuple", _, false, rfl, ty, rfl, false, rfl, iteF ?_⟩
    refine iteF ?_
    refine ⟨_, rfl, _, "list", _, true, rfl, ty, rfl, true, rfl, iteT ?_⟩
    cases rx with
    | @lst ax xs dxs ex rxA =>
      refine ⟨_, rfl, _, "list", _, true, rfl, tx, rfl, true, rfl, iteF ?_⟩
      have lx := rxA.length
      have ly := ryA.length
      refine ⟨_, rfl, ax, _, rfl, .inl (SqL.of ex), fun zx => ⟨_, rfl, ay, _, rfl, .inl (SqL.of ey), fun zy => ⟨rfl, _, rfl, ?_⟩⟩⟩
      have ez : sizeLine = 16777216 := sizeLine_eq
      by_cases hl : xs.length = ys.length
      · have el : V.int (xs.length : Int) = V.int (ys.length : Int) := by rw [hl]
        rw [if_pos (decide_eq_true el)]
        have hld : dxs.length = dys.length := by omega
        refine ⟨_, rfl, ay, _, rfl, .inl (SqL.of ey), fun _ => ⟨_, rfl, by omega, by omega, fun D hD => ?_⟩⟩
        have s0 : ∀ o, Same H (upd H D o) := fun o => same_new hD o
        refine lp_range (fun i H2 => Same H H2 ∧ H2 D = some (.lst (((List.zipWith PySem.Spec.same dxs dys).take i).map V.bl))) ⟨s0 _, upd_same⟩ ?_ ?_
        · rintro i H2 hi ⟨s2, hD2⟩
          have hi' : i < ys.length := by simpa using hi
          have hix : i < xs.length := by omega
          obtain ⟨d1, e1, r1⟩ := rxA.getV (i := i) (List.getElem?_eq_getElem hix)
          obtain ⟨d2, e2, r2⟩ := ryA.getV (i := i) (List.getElem?_eq_getElem hi')
          have ax1 : atI xs ((0 : Int) + (i : Int)) = some xs[i] := by rw [Int.zero_add]; exact atI_nat (List.getElem?_eq_getElem hix)
          have ay1 : atI ys ((0 : Int) + (i : Int)) = some ys[i] := by rw [Int.zero_add]; exact atI_nat (List.getElem?_eq_getElem hi')
          have hdi : d2.depth < n := by
            have z1 := PyData.depth_le_depthAll dys d2 (List.mem_of_getElem? e2)
            have z2 : PyData.depthAll dys + 1 < n + 1 := by simpa only [PyData.depth] using hdep
            omega
          refine ⟨⟨rfl, rfl, trivial⟩, ?_⟩
          refine ⟨_, rfl, _, rfl, .inl ⟨ax, _, _, _, rfl, rfl, SqL.of (s2 _ _ ex), ax1, _, rfl, _, rfl, .inl ⟨ay, _, _, _, rfl, rfl, SqL.of (s2 _ _ ey), ay1, xs[i], ys[i], d1, d2, rfl, r1.mono s2, r2.mono s2, hdi, fun H3 s3 => ?_⟩⟩⟩
          refine ⟨_, s3 _ _ hD2, ?_, fun b o e => ?_, ?_⟩
          · rw [List.length_map, List.length_take]; omega
          · rw [upd_ne (ne_of_none e hD)]; exact s3 _ _ (s2 _ _ e)
          · rw [upd_same]
            have ez : (List.zipWith PySem.Spec.same dxs dys)[i]? = some (PySem.Spec.same d1 d2) := by rw [List.getElem?_zipWith, e1, e2]
            rw [List.take_add_one, ez, List.map_append]
            rfl
        · rintro H2 ⟨s2, hD2⟩
          have et : (List.zipWith PySem.Spec.same dxs dys).take ((ys.length : Int).toNat) = List.zipWith PySem.Spec.same dxs dys := List.take_of_length_le (by rw [List.length_zipWith]; omega)
          rw [et] at hD2
          refine ⟨D, _, rfl, hD2, ?_⟩
          have es := sameAll_zip hld
          show Q (.bl ((List.zipWith PySem.Spec.same dxs dys).all id)) H2
          rw [← es]
          have qq := q H2 s2
          simpa only [PySem.Spec.same] using qq
      · have el : ¬ V.int (xs.length : Int) = V.int (ys.length : Int) := fun z => hl (by injection z; omega)
        rw [decide_eq_false el]
        refine iteF ?_
        have es := sameAll_len (xs := dxs) (ys := dys) (by omega)
        have qq := q0
        simp only [PySem.Spec.same] at qq
        rw [es] at qq
        exact qq
    | non => exact ⟨_, rfl, _, "list", _, false, rfl, tx, rfl, false, rfl, iteT q0⟩
    | bl c => exact ⟨_, rfl, _, "list", _, false, rfl, tx, rfl, false, rfl, iteT q0⟩
    | int i => exact ⟨_, rfl, _, "list", _, false, rfl, tx, rfl, false, rfl, iteT q0⟩
    | str z => exact ⟨_, rfl, _, "list", _, false, rfl, tx, rfl, false, rfl, iteT q0⟩
    | tup e t => exact ⟨_, rfl, _, "list", _, false, rfl, tx, rfl, false, rfl, iteT q0⟩
  | @tup ay ys dys ey ryA =>
    refine iteF ?_
    refine ⟨_, rfl, _, "bool", _, false, rfl, ty, rfl, false, rfl, iteF ?_⟩
    refine ⟨_, rfl, _, "int", _, false, rfl, ty, rfl, false, rfl, iteF ?_⟩
    refine ⟨_, rfl, _, "str", _, false, rfl, ty, rfl, false, rfl, iteF ?_⟩
    refine ⟨_, rfl, _, "tuple", _, true, rfl, ty, rfl, true, rfl, iteT ?_⟩
    cases rx with
    | @tup ax xs dxs ex rxA =>
      refine ⟨_, rfl, _, "tuple", _, true, rfl, tx, rfl, true, rfl, iteF ?_⟩
      refine ⟨_, rfl, _, "list", _, false, rfl, ty, rfl, false, rfl, iteF ?_⟩
      have lx := rxA.length
      have ly := ryA.length
      refine ⟨_, rfl, ax, _, rfl, .inr (SqT.of ex), fun zx => ⟨_, rfl, ay, _, rfl, .inr (SqT.of ey), fun zy => ⟨rfl, _, rfl, ?_⟩⟩⟩
      have ez : sizeLine = 16777216 := sizeLine_eq
      by_cases hl : xs.length = ys.length
      · have el : V.int (xs.length : Int) = V.int (ys.length : Int) := by rw [hl]
        rw [if_pos (decide_eq_true el)]
        have hld : dxs.length = dys.length := by omega
        refine ⟨_, rfl, ay, _, rfl, .inr (SqT.of ey), fun _ => ⟨_, rfl, by omega, by omega, fun D hD => ?_⟩⟩
        have s0 : ∀ o, Same H (upd H D o) := fun o => same_new hD o
        refine lp_range (fun i H2 => Same H H2 ∧ H2 D = some (.lst (((List.zipWith PySem.Spec.same dxs dys).take i).map V.bl))) ⟨s0 _, upd_same⟩ ?_ ?_
        · rintro i H2 hi ⟨s2, hD2⟩
          have hi' : i < ys.length := by simpa using hi
          have hix : i < xs.length := by omega
          obtain ⟨d1, e1, r1⟩ := rxA.getV (i := i) (List.getElem?_eq_getElem hix)
          obtain ⟨d2, e2, r2⟩ := ryA.getV (i := i) (List.getElem?_eq_getElem hi')
          have ax1 : atI xs ((0 : Int) + (i : Int)) = some xs[i] := by rw [Int.zero_add]; exact atI_nat (List.getElem?_eq_getElem hix)
          have ay1 : atI ys ((0 : Int) + (i : Int)) = some ys[i] := by rw [Int.zero_add]; exact atI_nat (List.getElem?_eq_getElem hi')
          have hdi : d2.depth < n := by
            have z1 := PyData.depth_le_depthAll dys d2 (List.mem_of_getElem? e2)
            have z2 : PyData.depthAll dys + 1 < n + 1 := by simpa only [PyData.depth] using hdep
            omega
          refine ⟨⟨rfl, rfl, trivial⟩, ?_⟩
          refine ⟨_, rfl, _, rfl, .inr (.inl ⟨ax, _, _, _, rfl, rfl, SqT.of (s2 _ _ ex), ax1, _, rfl, _, rfl, .inr (.inl ⟨ay, _, _, _, rfl, rfl, SqT.of (s2 _ _ ey), ay1, xs[i], ys[i], d1, d2, rfl, r1.mono s2, r2.mono s2, hdi, fun H3 s3 => ?_⟩)⟩)⟩
          refine ⟨_, s3 _ _ hD2, ?_, fun b o e => ?_, ?_⟩
          · rw [List.length_map, List.length_take]; omega
          · rw [upd_ne (ne_of_none e hD)]; exact s3 _ _ (s2 _ _ e)
          · rw [upd_same]
            have ez : (List.zipWith PySem.Spec.same dxs dys)[i]? = some (PySem.Spec.same d1 d2) := by rw [List.getElem?_zipWith, e1, e2]
            rw [List.take_add_one, ez, List.map_append]
            rfl
        · rintro H2 ⟨s2, hD2⟩
          have et : (List.zipWith PySem.Spec.same dxs dys).take ((ys.length : Int).toNat) = List.zipWith PySem.Spec.same dxs dys := List.take_of_length_le (by rw [List.length_zipWith]; omega)
          rw [et] at hD2
          refine ⟨D, _, rfl, hD2, ?_⟩
          have es := sameAll_zip hld
          show Q (.bl ((List.zipWith PySem.Spec.same dxs dys).all id)) H2
          rw [← es]
          have qq := q H2 s2
          simpa only [PySem.Spec.same] using qq
      · have el : ¬ V.int (xs.length : Int) = V.int (ys.length : Int) := fun z => hl (by injection z; omega)
        rw [decide_eq_false el]
        refine iteF ?_
        have es := sameAll_len (xs := dxs) (ys := dys) (by omega)
        have qq := q0
        simp only [PySem.Spec.same] at qq
        rw [es] at qq
        exact qq
    | non => exact ⟨_, rfl, _, "tuple", _, false, rfl, tx, rfl, false, rfl, iteT (iteT q0)⟩
    | bl c => exact ⟨_, rfl, _, "tuple", _, false, rfl, tx, rfl, false, rfl, iteT (iteT q0)⟩
    | int i => exact ⟨_, rfl, _, "tuple", _, false, rfl, tx, rfl, false, rfl, iteT (iteT q0)⟩
    | str z => exact ⟨_, rfl, _, "tuple", _, false, rfl, tx, rfl, false, rfl, iteT (iteT q0)⟩
    | lst e t => exact ⟨_, rfl, _, "tuple", _, false, rfl, tx, rfl, false, rfl, iteT (iteT q0)⟩
theorem ok__law_same {a : Adr} (T : Txt w K mg a) : ∀ n : Nat, FnOk P w K mg base CX0 (n + 2) a.f__law_same a.d__law_same ["_law_found", "_law_due"] (spSame n)
  | 0 => same_none
  | n + 1 => same_step T (ok__law_same T n)

end
section
open Ev
variable {P : Program} {w : World} {K : PySem.W.Frag} {mg : Str → Option Value} {base : Heap}
structure All (P : Program) (w : World) (K : PySem.W.Frag) (mg : Str → Option Value) (base : Heap) (a : Adr) (d : Nat) : Prop where
  F_trios_of : FnOk P w K mg base (CXE P w) (4 * d + 8) a.f_trios_of a.d_trios_of ["kind", "tables"] (spF Pg (cn a) d 0)
  F_Plan____init__ : FnOk P w K mg base (CXE P w) (4 * d + 8) a.f_Plan____init__ a.d_Plan____init__ ["self", "kind", "tables"] (spF Pg (cn a) d 1)
  F_Plan__rounds : FnOk P w K mg base (CXE P w) (4 * d + 8) a.f_Plan__rounds a.d_Plan__rounds ["self"] (spF Pg (cn a) d 2)
  F_Plan__sets : FnOk P w K mg base (CXE P w) (4 * d + 8) a.f_Plan__sets a.d_Plan__sets ["self"] (spF Pg (cn a) d 3)
  F_Plan__pairs : FnOk P w K mg base (CXE P w) (4 * d + 8) a.f_Plan__pairs a.d_Plan__pairs ["self"] (spF Pg (cn a) d 4)
  F_Plan__need_round : FnOk P w K mg base (CXE P w) (4 * d + 8) a.f_Plan__need_round a.d_Plan__need_round ["self", "at"] (spF Pg (cn a) d 5)
  F_Plan__need_table : FnOk P w K mg base (CXE P w) (4 * d + 8) a.f_Plan__need_table a.d_Plan__need_table ["self", "table"] (spF Pg (cn a) d 6)
  F_Plan__need_pair : FnOk P w K mg base (CXE P w) (4 * d + 8) a.f_Plan__need_pair a.d_Plan__need_pair ["self", "pair"] (spF Pg (cn a) d 7)
  F_Plan__field : FnOk P w K mg base (CXE P w) (4 * d + 8) a.f_Plan__field a.d_Plan__field ["self", "pair"] (spF Pg (cn a) d 8)
  F_Plan__seat : FnOk P w K mg base (CXE P w) (4 * d + 8) a.f_Plan__seat a.d_Plan__seat ["self", "at", "table"] (spF Pg (cn a) d 9)
  F_Plan__two_field_seat : FnOk P w K mg base (CXE P w) (4 * d + 8) a.f_Plan__two_field_seat a.d_Plan__two_field_seat ["self", "at", "table"] (spF Pg (cn a) d 10)
  F__law_rows : FnOk P w K mg base (CXE P w) (4 * d + 8) a.f__law_rows a.d__law_rows ["_law_kind", "_law_t"] (spF Pg (cn a) d 11)
  F__law_far_of : FnOk P w K mg base (CXE P w) (4 * d + 8) a.f__law_far_of a.d__law_far_of ["_law_number", "_law_most"] (spF Pg (cn a) d 12)
theorem all_zero {a : Adr} : All P w K mg base a 0 := ⟨fn_zero, fn_zero, fn_zero, fn_zero, fn_zero, fn_zero, fn_zero, fn_zero, fn_zero, fn_zero, fn_zero, fn_zero, fn_zero⟩
theorem ev_trios_of {a : Adr} {d : Nat} (T : Txt w K mg a) (A0 : All P w K mg base a d) : FnOk P w K mg base (CXE P w) (4 * (d + 1) + 8) a.f_trios_of a.d_trios_of ["kind", "tables"] (spF Pg (cn a) (d + 1) 0) := by
  have S0 := ok__law_same (P := P) (w := w) (base := base) T 13
  refine (fn_ev (k := 4 * d + 11) T.D_trios_of.fn sc_trios_of rfl fun σ0 cdv A outer s H E hr => ?_).mono (by omega)
  have hp : Passes (CXE P w) (cxOf (CXE P w) P w K mg base ["kind", "tables", "pairs", "adds"] "trios_of" (defScope s_trios_of) a.f_trios_of cdv A outer s H E) E := passes_e ⟨rfl, rfl, rfl⟩ rfl (fun _ _ _ z => z)
  exact (dss_cons (ds_if (dt_cmp o_ne (op_neD hr.units) (de_var (i := 0)) (de_str [114, 105, 110, 103]) (nomark _)) (dss_cons (ds_ret (de_lst da_nil))
      dss_nil) dss_nil)
      (dss_cons ds_never
      (dss_cons ds_never
      dss_nil)))
theorem ev_Plan____init__ {a : Adr} {d : Nat} (T : Txt w K mg a) (A0 : All P w K mg base a d) : FnOk P w K mg base (CXE P w) (4 * (d + 1) + 8) a.f_Plan____init__ a.d_Plan____init__ ["self", "kind", "tables"] (spF Pg (cn a) (d + 1) 1) := by
  have S0 := ok__law_same (P := P) (w := w) (base := base) T 13
  refine (fn_ev (k := 4 * d + 11) T.M_Plan____init__ sc_Plan____init__ rfl fun σ0 cdv A outer s H E hr => ?_).mono (by omega)
  have hp : Passes (CXE P w) (cxOf (CXE P w) P w K mg base ["self", "kind", "tables"] "Plan.__init__" (defScope s_Plan____init__) a.f_Plan____init__ cdv A outer s H E) E := passes_e ⟨rfl, rfl, rfl⟩ rfl (fun _ _ _ z => z)
  exact (dss_cons (ds_if (dt_tab T.tab_TABLES_OF rfl T.mg_TABLES_OF (de_var (i := 2)) (pe_tabG T.tab_TABLES_OF rfl T.mg_TABLES_OF (de_var (i := 1))) rfl) (dss_cons (ds_raise ⟨rfl, rfl, rfl⟩ rfl rfl T.xm_BadPlan (ok_BadPlan T) (hr.mono (by omega)) T.B_BadPlan____init__ rfl T.mg_BadPlan)
      dss_nil) dss_nil)
      (dss_cons (ds_fld T.cls_Plan T.na_Plan_kind (de_var (i := 0)) (de_var (i := 1)))
      (dss_cons (ds_fld T.cls_Plan T.na_Plan_tables (de_var (i := 0)) (de_var (i := 2)))
      (dss_cons (ds_fld T.cls_Plan T.na_Plan_trios (de_var (i := 0)) (de_call (A0.F_trios_of) (hr.mono (by omega)) rfl T.D_trios_of.mg T.D_trios_of.fn.kp T.D_trios_of.bd hp (da_Name (de_var (i := 1)) (da_Name (de_var (i := 2)) da_nil))))
      dss_nil))))
theorem ev_Plan__rounds {a : Adr} {d : Nat} (T : Txt w K mg a) (A0 : All P w K mg base a d) : FnOk P w K mg base (CXE P w) (4 * (d + 1) + 8) a.f_Plan__rounds a.d_Plan__rounds ["self"] (spF Pg (cn a) (d + 1) 2) := by
  have S0 := ok__law_same (P := P) (w := w) (base := base) T 13
  refine (fn_ev (k := 4 * d + 11) T.M_Plan__rounds sc_Plan__rounds rfl fun σ0 cdv A outer s H E hr => ?_).mono (by omega)
  have hp : Passes (CXE P w) (cxOf (CXE P w) P w K mg base ["self"] "Plan.rounds" (defScope s_Plan__rounds) a.f_Plan__rounds cdv A outer s H E) E := passes_e ⟨rfl, rfl, rfl⟩ rfl (fun _ _ _ z => z)
  exact (dss_cons (ds_if (dt_cmp o_eq (op_eqD hr.units) (de_fld T.cls_Plan T.na_Plan_kind (de_var (i := 0))) (de_str [115, 107, 105, 112]) (nomark _)) (dss_cons (ds_ret (de_op o_sub op_sub (de_fld T.cls_Plan T.na_Plan_tables (de_var (i := 0))) de_int))
      dss_nil) dss_nil)
      (dss_cons (ds_ret (de_meth0 T.cls_Plan T.mt_Plan__sets A0.F_Plan__sets (hr.mono (by omega)) T.B_Plan__sets hp (de_var (i := 0))))
      dss_nil))
theorem ev_Plan__sets {a : Adr} {d : Nat} (T : Txt w K mg a) (A0 : All P w K mg base a d) : FnOk P w K mg base (CXE P w) (4 * (d + 1) + 8) a.f_Plan__sets a.d_Plan__sets ["self"] (spF Pg (cn a) (d + 1) 3) := by
  have S0 := ok__law_same (P := P) (w := w) (base := base) T 13
  refine (fn_ev (k := 4 * d + 11) T.M_Plan__sets sc_Plan__sets rfl fun σ0 cdv A outer s H E hr => ?_).mono (by omega)
  have hp : Passes (CXE P w) (cxOf (CXE P w) P w K mg base ["self"] "Plan.sets" (defScope s_Plan__sets) a.f_Plan__sets cdv A outer s H E) E := passes_e ⟨rfl, rfl, rfl⟩ rfl (fun _ _ _ z => z)
  exact (dss_cons (ds_if (dt_cmp o_eq (op_eqD hr.units) (de_fld T.cls_Plan T.na_Plan_kind (de_var (i := 0))) (de_str [114, 105, 110, 103]) (nomark _)) (dss_cons (ds_ret (de_op o_sub op_sub (de_op o_mul (L2.OpR.or op_mulX op_rep) de_int (de_fld T.cls_Plan T.na_Plan_tables (de_var (i := 0)))) de_int))
      dss_nil) dss_nil)
      (dss_cons (ds_ret (de_fld T.cls_Plan T.na_Plan_tables (de_var (i := 0))))
      dss_nil))
theorem ev_Plan__pairs {a : Adr} {d : Nat} (T : Txt w K mg a) (A0 : All P w K mg base a d) : FnOk P w K mg base (CXE P w) (4 * (d + 1) + 8) a.f_Plan__pairs a.d_Plan__pairs ["self"] (spF Pg (cn a) (d + 1) 4) := by
  have S0 := ok__law_same (P := P) (w := w) (base := base) T 13
  refine (fn_ev (k := 4 * d + 11) T.M_Plan__pairs sc_Plan__pairs rfl fun σ0 cdv A outer s H E hr => ?_).mono (by omega)
  have hp : Passes (CXE P w) (cxOf (CXE P w) P w K mg base ["self"] "Plan.pairs" (defScope s_Plan__pairs) a.f_Plan__pairs cdv A outer s H E) E := passes_e ⟨rfl, rfl, rfl⟩ rfl (fun _ _ _ z => z)
  exact (dss_cons (ds_ret (de_op o_mul (L2.OpR.or op_mulX op_rep) de_int (de_fld T.cls_Plan T.na_Plan_tables (de_var (i := 0)))))
      dss_nil)
theorem ev_Plan__need_round {a : Adr} {d : Nat} (T : Txt w K mg a) (A0 : All P w K mg base a d) : FnOk P w K mg base (CXE P w) (4 * (d + 1) + 8) a.f_Plan__need_round a.d_Plan__need_round ["self", "at"] (spF Pg (cn a) (d + 1) 5) := by
  have S0 := ok__law_same (P := P) (w := w) (base := base) T 13
  refine (fn_ev (k := 4 * d + 11) T.M_Plan__need_round sc_Plan__need_round rfl fun σ0 cdv A outer s H E hr => ?_).mono (by omega)
  have hp : Passes (CXE P w) (cxOf (CXE P w) P w K mg base ["self", "at"] "Plan.need_round" (defScope s_Plan__need_round) a.f_Plan__need_round cdv A outer s H E) E := passes_e ⟨rfl, rfl, rfl⟩ rfl (fun _ _ _ z => z)
  exact (dss_cons (ds_if (PW.pt (dw_or (dt_cmp (o_lt (K := K)) (L2.OpR.or op_lt (op_ltT hr.units0)) (de_var (i := 1)) de_int (nomark _)) (pw_or1 (dt_cmp o_ge op_ge (de_var (i := 1)) (de_meth0 T.cls_Plan T.mt_Plan__rounds A0.F_Plan__rounds (hr.mono (by omega)) T.B_Plan__rounds hp (de_var (i := 0))) (nomark _))))) (dss_cons (ds_raise ⟨rfl, rfl, rfl⟩ rfl rfl T.xm_NoRound (ok_NoRound T) (hr.mono (by omega)) T.B_NoRound____init__ rfl T.mg_NoRound)
      dss_nil) dss_nil)
      dss_nil)
theorem ev_Plan__need_table {a : Adr} {d : Nat} (T : Txt w K mg a) (A0 : All P w K mg base a d) : FnOk P w K mg base (CXE P w) (4 * (d + 1) + 8) a.f_Plan__need_table a.d_Plan__need_table ["self", "table"] (spF Pg (cn a) (d + 1) 6) := by
  have S0 := ok__law_same (P := P) (w := w) (base := base) T 13
  refine (fn_ev (k := 4 * d + 11) T.M_Plan__need_table sc_Plan__need_table rfl fun σ0 cdv A outer s H E hr => ?_).mono (by omega)
  have hp : Passes (CXE P w) (cxOf (CXE P w) P w K mg base ["self", "table"] "Plan.need_table" (defScope s_Plan__need_table) a.f_Plan__need_table cdv A outer s H E) E := passes_e ⟨rfl, rfl, rfl⟩ rfl (fun _ _ _ z => z)
  exact (dss_cons (ds_if (PW.pt (dw_or (dt_cmp (o_lt (K := K)) (L2.OpR.or op_lt (op_ltT hr.units0)) (de_var (i := 1)) de_int (nomark _)) (pw_or1 (dt_cmp o_ge op_ge (de_var (i := 1)) (de_fld T.cls_Plan T.na_Plan_tables (de_var (i := 0))) (nomark _))))) (dss_cons (ds_raise ⟨rfl, rfl, rfl⟩ rfl rfl T.xm_NoTable (ok_NoTable T) (hr.mono (by omega)) T.B_NoTable____init__ rfl T.mg_NoTable)
      dss_nil) dss_nil)
      dss_nil)
theorem ev_Plan__need_pair {a : Adr} {d : Nat} (T : Txt w K mg a) (A0 : All P w K mg base a d) : FnOk P w K mg base (CXE P w) (4 * (d + 1) + 8) a.f_Plan__need_pair a.d_Plan__need_pair ["self", "pair"] (spF Pg (cn a) (d + 1) 7) := by
  have S0 := ok__law_same (P := P) (w := w) (base := base) T 13
  refine (fn_ev (k := 4 * d + 11) T.M_Plan__need_pair sc_Plan__need_pair rfl fun σ0 cdv A outer s H E hr => ?_).mono (by omega)
  have hp : Passes (CXE P w) (cxOf (CXE P w) P w K mg base ["self", "pair"] "Plan.need_pair" (defScope s_Plan__need_pair) a.f_Plan__need_pair cdv A outer s H E) E := passes_e ⟨rfl, rfl, rfl⟩ rfl (fun _ _ _ z => z)
  exact (dss_cons (ds_if (PW.pt (dw_or (dt_cmp (o_lt (K := K)) (L2.OpR.or op_lt (op_ltT hr.units0)) (de_var (i := 1)) de_int (nomark _)) (pw_or1 (dt_cmp o_ge op_ge (de_var (i := 1)) (de_meth0 T.cls_Plan T.mt_Plan__pairs A0.F_Plan__pairs (hr.mono (by omega)) T.B_Plan__pairs hp (de_var (i := 0))) (nomark _))))) (dss_cons (ds_raise ⟨rfl, rfl, rfl⟩ rfl rfl T.xm_NoPair (ok_NoPair T) (hr.mono (by omega)) T.B_NoPair____init__ rfl T.mg_NoPair)
      dss_nil) dss_nil)
      dss_nil)
theorem ev_Plan__field {a : Adr} {d : Nat} (T : Txt w K mg a) (A0 : All P w K mg base a d) : FnOk P w K mg base (CXE P w) (4 * (d + 1) + 8) a.f_Plan__field a.d_Plan__field ["self", "pair"] (spF Pg (cn a) (d + 1) 8) := by
  have S0 := ok__law_same (P := P) (w := w) (base := base) T 13
  refine (fn_ev (k := 4 * d + 11) T.M_Plan__field sc_Plan__field rfl fun σ0 cdv A outer s H E hr => ?_).mono (by omega)
  have hp : Passes (CXE P w) (cxOf (CXE P w) P w K mg base ["self", "pair"] "Plan.field" (defScope s_Plan__field) a.f_Plan__field cdv A outer s H E) E := passes_e ⟨rfl, rfl, rfl⟩ rfl (fun _ _ _ z => z)
  exact (dss_cons (ds_expr (de_meth T.cls_Plan T.mt_Plan__need_pair A0.F_Plan__need_pair (hr.mono (by omega)) T.B_Plan__need_pair hp (de_var (i := 0)) (da_Name (de_var (i := 1)) da_nil)))
      (dss_cons (ds_if (PW.pt (dw_or (dt_cmp o_eq (op_eqD hr.units) (de_fld T.cls_Plan T.na_Plan_kind (de_var (i := 0))) (de_str [114, 105, 110, 103]) (nomark _)) (pw_or1 (dt_cmp (o_lt (K := K)) (L2.OpR.or op_lt (op_ltT hr.units0)) (de_var (i := 1)) (de_fld T.cls_Plan T.na_Plan_tables (de_var (i := 0))) (nomark _))))) (dss_cons (ds_ret de_int)
      dss_nil) dss_nil)
      (dss_cons (ds_ret de_int)
      dss_nil)))
theorem ev_Plan__seat {a : Adr} {d : Nat} (T : Txt w K mg a) (A0 : All P w K mg base a d) : FnOk P w K mg base (CXE P w) (4 * (d + 1) + 8) a.f_Plan__seat a.d_Plan__seat ["self", "at", "table"] (spF Pg (cn a) (d + 1) 9) := by
  have S0 := ok__law_same (P := P) (w := w) (base := base) T 13
  refine (fn_ev (k := 4 * d + 11) T.M_Plan__seat sc_Plan__seat rfl fun σ0 cdv A outer s H E hr => ?_).mono (by omega)
  have hp : Passes (CXE P w) (cxOf (CXE P w) P w K mg base ["self", "at", "table"] "Plan.seat" (defScope s_Plan__seat) a.f_Plan__seat cdv A outer s H E) E := passes_e ⟨rfl, rfl, rfl⟩ rfl (fun _ _ _ z => z)
  exact (dss_cons (ds_expr (de_meth T.cls_Plan T.mt_Plan__need_round A0.F_Plan__need_round (hr.mono (by omega)) T.B_Plan__need_round hp (de_var (i := 0)) (da_Name (de_var (i := 1)) da_nil)))
      (dss_cons (ds_expr (de_meth T.cls_Plan T.mt_Plan__need_table A0.F_Plan__need_table (hr.mono (by omega)) T.B_Plan__need_table hp (de_var (i := 0)) (da_Name (de_var (i := 2)) da_nil)))
      (dss_cons (ds_if (dt_cmp o_eq (op_eqD hr.units) (de_fld T.cls_Plan T.na_Plan_kind (de_var (i := 0))) (de_str [114, 105, 110, 103]) (nomark _)) (dss_cons ds_never
      dss_nil) dss_nil)
      (dss_cons (ds_ret (de_meth T.cls_Plan T.mt_Plan__two_field_seat A0.F_Plan__two_field_seat (hr.mono (by omega)) T.B_Plan__two_field_seat hp (de_var (i := 0)) (da_Name (de_var (i := 1)) (da_Name (de_var (i := 2)) da_nil))))
      dss_nil))))
theorem ev_Plan__two_field_seat {a : Adr} {d : Nat} (T : Txt w K mg a) (A0 : All P w K mg base a d) : FnOk P w K mg base (CXE P w) (4 * (d + 1) + 8) a.f_Plan__two_field_seat a.d_Plan__two_field_seat ["self", "at", "table"] (spF Pg (cn a) (d + 1) 10) := by
  have S0 := ok__law_same (P := P) (w := w) (base := base) T 13
  refine (fn_ev (k := 4 * d + 11) T.M_Plan__two_field_seat sc_Plan__two_field_seat rfl fun σ0 cdv A outer s H E hr => ?_).mono (by omega)
  have hp : Passes (CXE P w) (cxOf (CXE P w) P w K mg base ["self", "at", "table", "t", "half", "back", "ahead"] "Plan.two_field_seat" (defScope s_Plan__two_field_seat) a.f_Plan__two_field_seat cdv A outer s H E) E := passes_e ⟨rfl, rfl, rfl⟩ rfl (fun _ _ _ z => z)
  exact (dss_cons (ds_set (i := 3) sc_Plan__two_field_seat.nd rfl (Or.inl rfl) (de_fld T.cls_Plan T.na_Plan_tables (de_var (i := 0))))
      (dss_cons (ds_set (i := 4) sc_Plan__two_field_seat.nd rfl (Or.inl rfl) (de_op o_fdiv op_fdivX (de_var (i := 3)) de_int))
      (dss_cons (ds_set (i := 5) sc_Plan__two_field_seat.nd rfl (Or.inl rfl) (de_ifExp (PW.pt (dw_and (dt_cmp o_eq (op_eqD hr.units) (de_fld T.cls_Plan T.na_Plan_kind (de_var (i := 0))) (de_str [115, 107, 105, 112]) (nomark _)) (pw_and1 (dt_cmp o_ge op_ge (de_var (i := 1)) (de_var (i := 4)) (nomark _))))) (de_op o_add (L2.OpR.or op_add op_cat) (de_var (i := 1)) de_int) (de_var (i := 1))))
      (dss_cons (ds_set (i := 6) sc_Plan__two_field_seat.nd rfl (Or.inl rfl) (de_ifExp (PW.pt (dw_and (dt_cmp o_eq (op_eqD hr.units) (de_fld T.cls_Plan T.na_Plan_kind (de_var (i := 0))) (de_str [115, 104, 97, 114, 101, 100]) (nomark _)) (pw_and1 (dt_cmp o_ge op_ge (de_var (i := 2)) (de_var (i := 4)) (nomark _))))) (de_op o_add (L2.OpR.or op_add op_cat) (de_var (i := 1)) de_int) (de_var (i := 1))))
      (dss_cons (ds_ret (de_tup (da_Name (de_var (i := 2)) (da_BinOp (de_op o_add (L2.OpR.or op_add op_cat) (de_var (i := 3)) (de_op o_mod op_mod (de_op o_sub op_sub (de_var (i := 2)) (de_var (i := 5))) (de_var (i := 3)))) (da_BinOp (de_op o_mod op_mod (de_op o_add (L2.OpR.or op_add op_cat) (de_var (i := 2)) (de_var (i := 6))) (de_var (i := 3))) da_nil)))))
      dss_nil)))))
theorem ev__law_rows {a : Adr} {d : Nat} (T : Txt w K mg a) (A0 : All P w K mg base a d) : FnOk P w K mg base (CXE P w) (4 * (d + 1) + 8) a.f__law_rows a.d__law_rows ["_law_kind", "_law_t"] (spF Pg (cn a) (d + 1) 11) := by
  have S0 := ok__law_same (P := P) (w := w) (base := base) T 13
  refine (fn_ev (k := 4 * d + 11) T.D__law_rows.fn sc__law_rows rfl fun σ0 cdv A outer s H E hr => ?_).mono (by omega)
  have hp : Passes (CXE P w) (cxOf (CXE P w) P w K mg base ["_law_kind", "_law_t", "_law_rows_here", "_law_at", "_law_back", "_law_row", "_law_table", "_law_more"] "_law_rows" (defScope s__law_rows) a.f__law_rows cdv A outer s H E) E := passes_e ⟨rfl, rfl, rfl⟩ rfl (fun _ _ _ z => z)
  exact (dss_cons (ds_if (dt_cmp o_eq (op_eqD hr.units) (de_var (i := 0)) (de_str [114, 105, 110, 103]) (nomark _)) (dss_cons ds_never
      dss_nil) dss_nil)
      (dss_cons (ds_set (i := 2) sc__law_rows.nd rfl (Or.inl rfl) (de_lst da_nil))
      (dss_cons (ds_for PassesOwn.leaving rfl di_rng1 (pi_range1 rfl T.z_range (da_IfExp (de_ifExp (dt_cmp o_eq (op_eqD hr.units) (de_var (i := 0)) (de_str [115, 107, 105, 112]) (nomark _)) (de_op o_sub op_sub (de_var (i := 1)) de_int) (de_var (i := 1))) da_nil)) (dg_name (i := 3) sc__law_rows.nd rfl (Or.inl rfl))
      (dss_cons (ds_set (i := 4) sc__law_rows.nd rfl (Or.inl rfl) (de_ifExp (PW.pt (dw_and (dt_cmp o_eq (op_eqD hr.units) (de_var (i := 0)) (de_str [115, 107, 105, 112]) (nomark _)) (pw_and1 (dt_cmp o_ge op_ge (de_op o_mul (L2.OpR.or op_mulX op_rep) de_int (de_var (i := 3))) (de_var (i := 1)) (nomark _))))) (de_op o_add (L2.OpR.or op_add op_cat) (de_var (i := 3)) de_int) (de_var (i := 3))))
      (dss_cons (ds_set (i := 5) sc__law_rows.nd rfl (Or.inl rfl) (de_lst da_nil))
      (dss_cons (ds_for PassesOwn.leaving rfl di_rng1 (pi_range1 rfl T.z_range (da_Name (de_var (i := 1)) da_nil)) (dg_name (i := 6) sc__law_rows.nd rfl (Or.inl rfl))
      (dss_cons (ds_set (i := 7) sc__law_rows.nd rfl (Or.inl rfl) (de_ifExp (PW.pt (dw_and (dt_cmp o_eq (op_eqD hr.units) (de_var (i := 0)) (de_str [115, 104, 97, 114, 101, 100]) (nomark _)) (pw_and1 (dt_cmp o_ge op_ge (de_op o_mul (L2.OpR.or op_mulX op_rep) de_int (de_var (i := 6))) (de_var (i := 1)) (nomark _))))) de_int de_int))
      (dss_cons (ds_expr (de_lm o_append PySem.F.slot_list_append PySem.F.type_list_append mt_append (de_var (i := 5)) (da_Tuple (de_tup (da_Name (de_var (i := 6)) (da_BinOp (de_op o_add (L2.OpR.or op_add op_cat) (de_var (i := 1)) (de_op o_mod op_mod (de_op o_sub op_sub (de_var (i := 6)) (de_var (i := 4))) (de_var (i := 1)))) (da_BinOp (de_op o_mod op_mod (de_op o_add (L2.OpR.or op_add op_cat) (de_op o_add (L2.OpR.or op_add op_cat) (de_var (i := 6)) (de_var (i := 3))) (de_var (i := 7))) (de_var (i := 1))) da_nil)))) da_nil)))
      dss_nil)))
      (dss_cons (ds_expr (de_lm o_append PySem.F.slot_list_append PySem.F.type_list_append mt_append (de_var (i := 2)) (da_Name (de_var (i := 5)) da_nil)))
      dss_nil)))))
      (dss_cons (ds_ret (de_var (i := 2)))
      dss_nil))))
theorem ev__law_far_of {a : Adr} {d : Nat} (T : Txt w K mg a) (A0 : All P w K mg base a d) : FnOk P w K mg base (CXE P w) (4 * (d + 1) + 8) a.f__law_far_of a.d__law_far_of ["_law_number", "_law_most"] (spF Pg (cn a) (d + 1) 12) := by
  have S0 := ok__law_same (P := P) (w := w) (base := base) T 13
  refine (fn_ev (k := 4 * d + 11) T.D__law_far_of.fn sc__law_far_of rfl fun σ0 cdv A outer s H E hr => ?_).mono (by omega)
  have hp : Passes (CXE P w) (cxOf (CXE P w) P w K mg base ["_law_number", "_law_most"] "_law_far_of" (defScope s__law_far_of) a.f__law_far_of cdv A outer s H E) E := passes_e ⟨rfl, rfl, rfl⟩ rfl (fun _ _ _ z => z)
  exact (dss_cons (ds_ret (de_ix (de_lst (da_UnaryOp (de_un o_neg un_neg de_int) (da_Name (de_var (i := 1)) (da_BinOp (de_op o_add (L2.OpR.or op_add op_cat) (de_var (i := 1)) de_int) (da_BinOp (de_op o_pow op_pow de_int de_int) (da_UnaryOp (de_un o_neg un_neg (de_op o_pow op_pow de_int de_int)) da_nil)))))) (de_op o_mod op_mod (de_var (i := 0)) de_int)))
      dss_nil)
theorem all_step {a : Adr} {d : Nat} (T : Txt w K mg a) (A0 : All P w K mg base a d) : All P w K mg base a (d + 1) := ⟨ev_trios_of T A0, ev_Plan____init__ T A0, ev_Plan__rounds T A0, ev_Plan__sets T A0, ev_Plan__pairs T A0, ev_Plan__need_round T A0, ev_Plan__need_table T A0, ev_Plan__need_pair T A0, ev_Plan__field T A0, ev_Plan__seat T A0, ev_Plan__two_field_seat T A0, ev__law_rows T A0, ev__law_far_of T A0⟩
theorem all_at {a : Adr} (T : Txt w K mg a) : ∀ d, All P w K mg base a d
  | 0 => all_zero
  | d + 1 => all_step T (all_at T d)
end
end My

set_option maxRecDepth 1000000
set_option maxHeartbeats 4000000
namespace My
open PySem L2 PyProof.Rows
open Ev
def tl0 : List S := [(.asg (.nm 3) (.pr .lst [(.pr .tup [(.cst (.str [115, 116, 114, 97, 105, 103, 104, 116])), (.cst (.int 3))]), (.pr .tup [(.cst (.str [115, 107, 105, 112])), (.cst (.int 4))]), (.pr .tup [(.cst (.str [115, 104, 97, 114, 101, 100])), (.cst (.int 4))]), (.pr .tup [(.cst (.str [115, 116, 114, 97, 105, 103, 104, 116])), (.cst (.int 5))]), (.pr .tup [(.cst (.str [115, 107, 105, 112])), (.cst (.int 6))]), (.pr .tup [(.cst (.str [115, 104, 97, 114, 101, 100])), (.cst (.int 6))])])),
  (.asg (.tup [(.nm 4), (.nm 5)]) (.pr .ix [(.pr .add [(.var 3), (.pr .lst [(.pr .tup [(.cst (.str [115, 116, 114, 97, 105, 103, 104, 116])), (.cst (.int 7))]), (.pr .tup [(.cst (.str [115, 107, 105, 112])), (.cst (.int 8))]), (.pr .tup [(.cst (.str [115, 104, 97, 114, 101, 100])), (.cst (.int 8))]), (.pr .tup [(.cst (.str [115, 116, 114, 97, 105, 103, 104, 116])), (.cst (.int 9))])])]), (.pr .ix [(.var 2), (.cst (.int 0))])]))]
def tl1 : List S := [(.asg (.nm 6) (.make 50 1 [(.var 4), (.var 5)])),
  (.asg (.nm 7) (.call 11 [(.var 4), (.var 5)])),
  (.for_ (.rng1 [(.pr .len [(.var 7)])]) (.nm 8) [(.for_ (.rng1 [(.var 5)]) (.nm 9) [(.ife (.pr .notb [(.pr .truth [(.pr .same [(.meth 50 [115, 101, 97, 116] 9 (.var 6) [(.var 8), (.var 9)]), (.pr .ix [(.pr .ix [(.var 7), (.var 8)]), (.var 9)])])])]) [(.ret (.cst (.bl false)))] [])])]),
  (.ife (.pr .notb [(.pr .truth [(.pr .same [(.comp 1 [6] (.rng1 [(.pr .mul [(.cst (.int 2)), (.var 5)])]) (.nm 0) none none (.meth 50 [102, 105, 101, 108, 100] 8 (.var 1) [(.var 0)])), (.pr .add [(.pr .mul [(.pr .lst [(.cst (.int 0))]), (.var 5)]), (.pr .mul [(.pr .lst [(.cst (.int 1))]), (.var 5)])])])])]) [(.ret (.cst (.bl false)))] [])]
def tl2 : List S := [(.asg (.nm 8) (.call 12 [(.pr .ix [(.var 2), (.cst (.int 1))]), (.pr .len [(.var 7)])])),
  (.asg (.nm 9) (.call 12 [(.pr .ix [(.var 2), (.cst (.int 2))]), (.var 5)])),
  (.ife (.pr .ne [(.told 4 [6, 8, 9] (.meth 50 [115, 101, 97, 116] 9 (.var 0) [(.var 1), (.var 2)])), (.pr .tup [(.cst (.str [110, 111])), (.cst (.str [110, 111, 32, 114, 111, 117, 110, 100]))])]) [(.ret (.cst (.bl false)))] []),
  (.ife (.pr .ne [(.told 4 [6, 7, 9] (.meth 50 [115, 101, 97, 116] 9 (.var 0) [(.pr .sub [(.pr .len [(.var 1)]), (.cst (.int 1))]), (.var 2)])), (.pr .tup [(.cst (.str [110, 111])), (.cst (.str [110, 111, 32, 116, 97, 98, 108, 101]))])]) [(.ret (.cst (.bl false)))] []),
  (.ife (.pr .ne [(.told 4 [2, 5, 6] (.meth 50 [102, 105, 101, 108, 100] 8 (.var 2) [(.call 12 [(.pr .ix [(.var 0), (.cst (.int 3))]), (.pr .mul [(.cst (.int 2)), (.var 1)])])])), (.pr .tup [(.cst (.str [110, 111])), (.cst (.str [110, 111, 32, 112, 97, 105, 114]))])]) [(.ret (.cst (.bl false)))] [])]
def rowW (r0 r1 r2 r3 : Int) : O := .lst [.int r0, .int r1, .int r2, .int r3]
def kinds : List (List Nat × Int) := [([115, 116, 114, 97, 105, 103, 104, 116], 3), ([115, 107, 105, 112], 4), ([115, 104, 97, 114, 101, 100], 4), ([115, 116, 114, 97, 105, 103, 104, 116], 5), ([115, 107, 105, 112], 6), ([115, 104, 97, 114, 101, 100], 6), ([115, 116, 114, 97, 105, 103, 104, 116], 7), ([115, 107, 105, 112], 8), ([115, 104, 97, 114, 101, 100], 8), ([115, 116, 114, 97, 105, 103, 104, 116], 9)]
def kt (r0 : Int) : List Nat × Int := kinds.getD r0.toNat ([], 0)
def five : List Int := [0, 1, 2, 3, 4]
def ten : List Int := [0, 1, 2, 3, 4, 5, 6, 7, 8, 9]
noncomputable def g0 (r0 r1 r2 r3 : Int) (τ : Sg) (h : Hs) : Bool := Nat.beq τ.length 10 && decide (getAt τ 0 = none) && decide (getAt τ 2 = some (.ref 0)) && decide (getAt τ 4 = some (.str (kt r0).1)) && decide (getAt τ 5 = some (.int (kt r0).2)) && decide (h.get 0 = some (rowW r0 r1 r2 r3))
theorem run0 : (ten.all fun r0 => five.all fun r1 => five.all fun r2 => five.all fun r3 => goes (evs Pg 40 6 (.ss tl0) [none, none, some (.ref 0), none, none, none, none, none, none, none] ((Hs.mk 0 .lf).push (rowW r0 r1 r2 r3))) (g0 r0 r1 r2 r3)) = true := by decide +kernel
noncomputable def g2 (τ : Sg) (h : Hs) : Bool := Nat.beq τ.length 10 && decide (getAt τ 0 = none)
noncomputable def g1 (r0 : Int) (τ : Sg) (h : Hs) : Bool := Nat.beq τ.length 10 && decide (getAt τ 0 = none) && decide (getAt τ 2 = none) && (five.all fun r1 => five.all fun r2 => five.all fun r3 => goes (evs Pg 200 6 (.ss tl2) (setAt τ (some (.ref h.n)) 2) (h.push (rowW r0 r1 r2 r3))) g2)
noncomputable def st1 (r0 : Int) : R A := evs Pg 200 6 (.ss tl1) [none, none, none, none, some (.str (kt r0).1), some (.int (kt r0).2), none, none, none, none] (.mk 0 .lf)
theorem run1_0 : goes (st1 0) (g1 0) = true := by decide +kernel
theorem run1_1 : goes (st1 1) (g1 1) = true := by decide +kernel
theorem run1_2 : goes (st1 2) (g1 2) = true := by decide +kernel
theorem run1_3 : goes (st1 3) (g1 3) = true := by decide +kernel
theorem run1_4 : goes (st1 4) (g1 4) = true := by decide +kernel
theorem run1_5 : goes (st1 5) (g1 5) = true := by decide +kernel
theorem run1_6 : goes (st1 6) (g1 6) = true := by decide +kernel
theorem run1_7 : goes (st1 7) (g1 7) = true := by decide +kernel
theorem run1_8 : goes (st1 8) (g1 8) = true := by decide +kernel
theorem run1_9 : goes (st1 9) (g1 9) = true := by decide +kernel
end My

set_option maxRecDepth 1000000
set_option maxHeartbeats 4000000
namespace My
open PySem L2 PyProof.Rows
open Ev
theorem four {ns : List Int} {l0 l1 l2 l3 : Int} (h : Drawn ns [l0, l1, l2, l3]) : ∃ r0 r1 r2 r3 : Int, ns = [r0, r1, r2, r3] ∧ (0 ≤ r0 ∧ r0 < l0) ∧ (0 ≤ r1 ∧ r1 < l1) ∧ (0 ≤ r2 ∧ r2 < l2) ∧ (0 ≤ r3 ∧ r3 < l3) := by
  cases h with | cons h0 h => cases h with | cons h1 h => cases h with | cons h2 h => cases h with | cons h3 h => cases h with | nil => exact ⟨_, _, _, _, rfl, h0, h1, h2, h3⟩
theorem five_mem {r : Int} (h : 0 ≤ r ∧ r < 5) : r ∈ five := by
  have : r = 0 ∨ r = 1 ∨ r = 2 ∨ r = 3 ∨ r = 4 := by omega
  rcases this with rfl | rfl | rfl | rfl | rfl <;> decide
theorem ten_mem {r : Int} (h : 0 ≤ r ∧ r < 10) : r ∈ ten := by
  have : r = 0 ∨ r = 1 ∨ r = 2 ∨ r = 3 ∨ r = 4 ∨ r = 5 ∨ r = 6 ∨ r = 7 ∨ r = 8 ∨ r = 9 := by omega
  rcases this with rfl | rfl | rfl | rfl | rfl | rfl | rfl | rfl | rfl | rfl <;> decide
theorem run1 {r : Int} (h : 0 ≤ r ∧ r < 10) : goes (st1 r) (g1 r) = true := by
  have : r = 0 ∨ r = 1 ∨ r = 2 ∨ r = 3 ∨ r = 4 ∨ r = 5 ∨ r = 6 ∨ r = 7 ∨ r = 8 ∨ r = 9 := by omega
  rcases this with rfl | rfl | rfl | rfl | rfl | rfl | rfl | rfl | rfl | rfl
  · exact run1_0
  · exact run1_1
  · exact run1_2
  · exact run1_3
  · exact run1_4
  · exact run1_5
  · exact run1_6
  · exact run1_7
  · exact run1_8
  · exact run1_9
theorem sml_small {i : Int} (h1 : -(2 ^ 10) < i) (h2 : i < 2 ^ 10) : L2.Sml i := by
  unfold L2.Sml
  exact Nat.lt_of_lt_of_le (show i.natAbs < 2 ^ 10 by omega) (Nat.pow_le_pow_right (by decide) (by decide))
def bodyOf : Stmt → List Stmt
  | .For _ _ b _ _ => b
  | _ => []
abbrev lawB (k : Nat) : Stmt := (bodyOf ((defBody s_law).getD 0 (.Pass ⟨0, 0, 0, 0⟩))).getD k (.Pass ⟨0, 0, 0, 0⟩)
section
variable {P : Program} {w : World} {K : PySem.W.Frag} {mg : Str → Option Value} {base : Heap}
theorem st_1 {a : Adr} {σ0 : L2.St} {A : Around} {outer : List Env} {s : Shared} {H : Hp} {E : XK} (T : Txt w K mg a) (S0 : FnOk P w K mg base CX0 15 a.f__law_same a.d__law_same ["_law_found", "_law_due"] (spSameN 13)) (A2 : All P w K mg base a 6) (AL : All P w K mg base a 4) (hr : Room 59 (cxOf (CXE P w) P w K mg base ["_law_script", "_law_k", "_law_row", "_law_some", "_law_kind", "_law_t", "_law_plan", "_law_rows_here", "_law_at", "_law_table"] "law" (defScope s_law) a.f_law (.ref a.code) A outer s H E).A) (hp : Passes (CXE P w) (cxOf (CXE P w) P w K mg base ["_law_script", "_law_k", "_law_row", "_law_some", "_law_kind", "_law_t", "_law_plan", "_law_rows_here", "_law_at", "_law_table"] "law" (defScope s_law) a.f_law (.ref a.code) A outer s H E) E) (LH : LamHd (cn a) (cxOf (CXE P w) P w K mg base ["_law_script", "_law_k", "_law_row", "_law_some", "_law_kind", "_law_t", "_law_plan", "_law_rows_here", "_law_at", "_law_table"] "law" (defScope s_law) a.f_law (.ref a.code) A outer s H E) a.code) (hrT : Room (50 + 1) (cxOf (CXE P w) P w K mg base ["_law_script", "_law_k", "_law_row", "_law_some", "_law_kind", "_law_t", "_law_plan", "_law_rows_here", "_law_at", "_law_table"] "law" (defScope s_law) a.f_law (.ref a.code) A outer s H E).A) (hrL : ∀ e1 e2, Room 50 (((cxOf (CXE P w) P w K mg base ["_law_script", "_law_k", "_law_row", "_law_some", "_law_kind", "_law_t", "_law_plan", "_law_rows_here", "_law_at", "_law_table"] "law" (defScope s_law) a.f_law (.ref a.code) A outer s H E).A.deeper e1).deeper e2)) :
    QS (cxOf (CXE P w) P w K mg base ["_law_script", "_law_k", "_law_row", "_law_some", "_law_kind", "_law_t", "_law_plan", "_law_rows_here", "_law_at", "_law_table"] "law" (defScope s_law) a.f_law (.ref a.code) A outer s H E) (lawB 1) (tS Pg (cn a) E 6 σ0 (.asg (.nm 3) (.pr .lst [(.pr .tup [(.cst (.str [115, 116, 114, 97, 105, 103, 104, 116])), (.cst (.int 3))]), (.pr .tup [(.cst (.str [115, 107, 105, 112])), (.cst (.int 4))]), (.pr .tup [(.cst (.str [115, 104, 97, 114, 101, 100])), (.cst (.int 4))]), (.pr .tup [(.cst (.str [115, 116, 114, 97, 105, 103, 104, 116])), (.cst (.int 5))]), (.pr .tup [(.cst (.str [115, 107, 105, 112])), (.cst (.int 6))]), (.pr .tup [(.cst (.str [115, 104, 97, 114, 101, 100])), (.cst (.int 6))])]))) :=
  (qs_set (i := 3) sc_law.nd rfl (Or.inl rfl) (qe_lst (qa_si [115, 116, 114, 97, 105, 103, 104, 116] (qa_si [115, 107, 105, 112] (qa_si [115, 104, 97, 114, 101, 100] (qa_si [115, 116, 114, 97, 105, 103, 104, 116] (qa_si [115, 107, 105, 112] (qa_si [115, 104, 97, 114, 101, 100] qa_nil))))))))
theorem st_2 {a : Adr} {σ0 : L2.St} {A : Around} {outer : List Env} {s : Shared} {H : Hp} {E : XK} (T : Txt w K mg a) (S0 : FnOk P w K mg base CX0 15 a.f__law_same a.d__law_same ["_law_found", "_law_due"] (spSameN 13)) (A2 : All P w K mg base a 6) (AL : All P w K mg base a 4) (hr : Room 59 (cxOf (CXE P w) P w K mg base ["_law_script", "_law_k", "_law_row", "_law_some", "_law_kind", "_law_t", "_law_plan", "_law_rows_here", "_law_at", "_law_table"] "law" (defScope s_law) a.f_law (.ref a.code) A outer s H E).A) (hp : Passes (CXE P w) (cxOf (CXE P w) P w K mg base ["_law_script", "_law_k", "_law_row", "_law_some", "_law_kind", "_law_t", "_law_plan", "_law_rows_here", "_law_at", "_law_table"] "law" (defScope s_law) a.f_law (.ref a.code) A outer s H E) E) (LH : LamHd (cn a) (cxOf (CXE P w) P w K mg base ["_law_script", "_law_k", "_law_row", "_law_some", "_law_kind", "_law_t", "_law_plan", "_law_rows_here", "_law_at", "_law_table"] "law" (defScope s_law) a.f_law (.ref a.code) A outer s H E) a.code) (hrT : Room (50 + 1) (cxOf (CXE P w) P w K mg base ["_law_script", "_law_k", "_law_row", "_law_some", "_law_kind", "_law_t", "_law_plan", "_law_rows_here", "_law_at", "_law_table"] "law" (defScope s_law) a.f_law (.ref a.code) A outer s H E).A) (hrL : ∀ e1 e2, Room 50 (((cxOf (CXE P w) P w K mg base ["_law_script", "_law_k", "_law_row", "_law_some", "_law_kind", "_law_t", "_law_plan", "_law_rows_here", "_law_at", "_law_table"] "law" (defScope s_law) a.f_law (.ref a.code) A outer s H E).A.deeper e1).deeper e2)) :
    QS (cxOf (CXE P w) P w K mg base ["_law_script", "_law_k", "_law_row", "_law_some", "_law_kind", "_law_t", "_law_plan", "_law_rows_here", "_law_at", "_law_table"] "law" (defScope s_law) a.f_law (.ref a.code) A outer s H E) (lawB 2) (tS Pg (cn a) E 6 σ0 (.asg (.tup [(.nm 4), (.nm 5)]) (.pr .ix [(.pr .add [(.var 3), (.pr .lst [(.pr .tup [(.cst (.str [115, 116, 114, 97, 105, 103, 104, 116])), (.cst (.int 7))]), (.pr .tup [(.cst (.str [115, 107, 105, 112])), (.cst (.int 8))]), (.pr .tup [(.cst (.str [115, 104, 97, 114, 101, 100])), (.cst (.int 8))]), (.pr .tup [(.cst (.str [115, 116, 114, 97, 105, 103, 104, 116])), (.cst (.int 9))])])]), (.pr .ix [(.var 2), (.cst (.int 0))])]))) :=
  (qs_asg (qe_ix (qe_op o_add (L2.OpR.or op_add op_cat) ⟨(de_var (i := 3))⟩ (qe_lst (qa_si [115, 116, 114, 97, 105, 103, 104, 116] (qa_si [115, 107, 105, 112] (qa_si [115, 104, 97, 114, 101, 100] (qa_si [115, 116, 114, 97, 105, 103, 104, 116] qa_nil)))))) (qe_ix ⟨(de_var (i := 2))⟩ ⟨de_int⟩)) (dg_tup rfl (dgs_cons (dg_name (i := 4) sc_law.nd rfl (Or.inl rfl)) (dgs_cons (dg_name (i := 5) sc_law.nd rfl (Or.inr rfl)) dgs_nil))))
theorem st_3 {a : Adr} {σ0 : L2.St} {A : Around} {outer : List Env} {s : Shared} {H : Hp} {E : XK} (T : Txt w K mg a) (S0 : FnOk P w K mg base CX0 15 a.f__law_same a.d__law_same ["_law_found", "_law_due"] (spSameN 13)) (A2 : All P w K mg base a 6) (AL : All P w K mg base a 4) (hr : Room 59 (cxOf (CXE P w) P w K mg base ["_law_script", "_law_k", "_law_row", "_law_some", "_law_kind", "_law_t", "_law_plan", "_law_rows_here", "_law_at", "_law_table"] "law" (defScope s_law) a.f_law (.ref a.code) A outer s H E).A) (hp : Passes (CXE P w) (cxOf (CXE P w) P w K mg base ["_law_script", "_law_k", "_law_row", "_law_some", "_law_kind", "_law_t", "_law_plan", "_law_rows_here", "_law_at", "_law_table"] "law" (defScope s_law) a.f_law (.ref a.code) A outer s H E) E) (LH : LamHd (cn a) (cxOf (CXE P w) P w K mg base ["_law_script", "_law_k", "_law_row", "_law_some", "_law_kind", "_law_t", "_law_plan", "_law_rows_here", "_law_at", "_law_table"] "law" (defScope s_law) a.f_law (.ref a.code) A outer s H E) a.code) (hrT : Room (50 + 1) (cxOf (CXE P w) P w K mg base ["_law_script", "_law_k", "_law_row", "_law_some", "_law_kind", "_law_t", "_law_plan", "_law_rows_here", "_law_at", "_law_table"] "law" (defScope s_law) a.f_law (.ref a.code) A outer s H E).A) (hrL : ∀ e1 e2, Room 50 (((cxOf (CXE P w) P w K mg base ["_law_script", "_law_k", "_law_row", "_law_some", "_law_kind", "_law_t", "_law_plan", "_law_rows_here", "_law_at", "_law_table"] "law" (defScope s_law) a.f_law (.ref a.code) A outer s H E).A.deeper e1).deeper e2)) :
    QS (cxOf (CXE P w) P w K mg base ["_law_script", "_law_k", "_law_row", "_law_some", "_law_kind", "_law_t", "_law_plan", "_law_rows_here", "_law_at", "_law_table"] "law" (defScope s_law) a.f_law (.ref a.code) A outer s H E) (lawB 3) (tS Pg (cn a) E 6 σ0 (.asg (.nm 6) (.make 50 1 [(.var 4), (.var 5)]))) :=
  ⟨(ds_set (i := 6) sc_law.nd rfl (Or.inr rfl) (de_make T.mk_Plan A2.F_Plan____init__ (hr.mono (by omega)) rfl T.mg_Plan T.B_Plan____init__ hp (da_Name (de_var (i := 4)) (da_Name (de_var (i := 5)) da_nil))))⟩
theorem st_4 {a : Adr} {σ0 : L2.St} {A : Around} {outer : List Env} {s : Shared} {H : Hp} {E : XK} (T : Txt w K mg a) (S0 : FnOk P w K mg base CX0 15 a.f__law_same a.d__law_same ["_law_found", "_law_due"] (spSameN 13)) (A2 : All P w K mg base a 6) (AL : All P w K mg base a 4) (hr : Room 59 (cxOf (CXE P w) P w K mg base ["_law_script", "_law_k", "_law_row", "_law_some", "_law_kind", "_law_t", "_law_plan", "_law_rows_here", "_law_at", "_law_table"] "law" (defScope s_law) a.f_law (.ref a.code) A outer s H E).A) (hp : Passes (CXE P w) (cxOf (CXE P w) P w K mg base ["_law_script", "_law_k", "_law_row", "_law_some", "_law_kind", "_law_t", "_law_plan", "_law_rows_here", "_law_at", "_law_table"] "law" (defScope s_law) a.f_law (.ref a.code) A outer s H E) E) (LH : LamHd (cn a) (cxOf (CXE P w) P w K mg base ["_law_script", "_law_k", "_law_row", "_law_some", "_law_kind", "_law_t", "_law_plan", "_law_rows_here", "_law_at", "_law_table"] "law" (defScope s_law) a.f_law (.ref a.code) A outer s H E) a.code) (hrT : Room (50 + 1) (cxOf (CXE P w) P w K mg base ["_law_script", "_law_k", "_law_row", "_law_some", "_law_kind", "_law_t", "_law_plan", "_law_rows_here", "_law_at", "_law_table"] "law" (defScope s_law) a.f_law (.ref a.code) A outer s H E).A) (hrL : ∀ e1 e2, Room 50 (((cxOf (CXE P w) P w K mg base ["_law_script", "_law_k", "_law_row", "_law_some", "_law_kind", "_law_t", "_law_plan", "_law_rows_here", "_law_at", "_law_table"] "law" (defScope s_law) a.f_law (.ref a.code) A outer s H E).A.deeper e1).deeper e2)) :
    QS (cxOf (CXE P w) P w K mg base ["_law_script", "_law_k", "_law_row", "_law_some", "_law_kind", "_law_t", "_law_plan", "_law_rows_here", "_law_at", "_law_table"] "law" (defScope s_law) a.f_law (.ref a.code) A outer s H E) (lawB 4) (tS Pg (cn a) E 6 σ0 (.asg (.nm 7) (.call 11 [(.var 4), (.var 5)]))) :=
  ⟨(ds_set (i := 7) sc_law.nd rfl (Or.inr rfl) (de_call (A2.F__law_rows) (hr.mono (by omega)) rfl T.D__law_rows.mg T.D__law_rows.fn.kp T.D__law_rows.bd hp (da_Name (de_var (i := 4)) (da_Name (de_var (i := 5)) da_nil))))⟩
theorem st_5 {a : Adr} {σ0 : L2.St} {A : Around} {outer : List Env} {s : Shared} {H : Hp} {E : XK} (T : Txt w K mg a) (S0 : FnOk P w K mg base CX0 15 a.f__law_same a.d__law_same ["_law_found", "_law_due"] (spSameN 13)) (A2 : All P w K mg base a 6) (AL : All P w K mg base a 4) (hr : Room 59 (cxOf (CXE P w) P w K mg base ["_law_script", "_law_k", "_law_row", "_law_some", "_law_kind", "_law_t", "_law_plan", "_law_rows_here", "_law_at", "_law_table"] "law" (defScope s_law) a.f_law (.ref a.code) A outer s H E).A) (hp : Passes (CXE P w) (cxOf (CXE P w) P w K mg base ["_law_script", "_law_k", "_law_row", "_law_some", "_law_kind", "_law_t", "_law_plan", "_law_rows_here", "_law_at", "_law_table"] "law" (defScope s_law) a.f_law (.ref a.code) A outer s H E) E) (LH : LamHd (cn a) (cxOf (CXE P w) P w K mg base ["_law_script", "_law_k", "_law_row", "_law_some", "_law_kind", "_law_t", "_law_plan", "_law_rows_here", "_law_at", "_law_table"] "law" (defScope s_law) a.f_law (.ref a.code) A outer s H E) a.code) (hrT : Room (50 + 1) (cxOf (CXE P w) P w K mg base ["_law_script", "_law_k", "_law_row", "_law_some", "_law_kind", "_law_t", "_law_plan", "_law_rows_here", "_law_at", "_law_table"] "law" (defScope s_law) a.f_law (.ref a.code) A outer s H E).A) (hrL : ∀ e1 e2, Room 50 (((cxOf (CXE P w) P w K mg base ["_law_script", "_law_k", "_law_row", "_law_some", "_law_kind", "_law_t", "_law_plan", "_law_rows_here", "_law_at", "_law_table"] "law" (defScope s_law) a.f_law (.ref a.code) A outer s H E).A.deeper e1).deeper e2)) :
    QS (cxOf (CXE P w) P w K mg base ["_law_script", "_law_k", "_law_row", "_law_some", "_law_kind", "_law_t", "_law_plan", "_law_rows_here", "_law_at", "_law_table"] "law" (defScope s_law) a.f_law (.ref a.code) A outer s H E) (lawB 5) (tS Pg (cn a) E 6 σ0 (.for_ (.rng1 [(.pr .len [(.var 7)])]) (.nm 8) [(.for_ (.rng1 [(.var 5)]) (.nm 9) [(.ife (.pr .notb [(.pr .truth [(.pr .same [(.meth 50 [115, 101, 97, 116] 9 (.var 6) [(.var 8), (.var 9)]), (.pr .ix [(.pr .ix [(.var 7), (.var 8)]), (.var 9)])])])]) [(.ret (.cst (.bl false)))] [])])])) :=
  ⟨(ds_for PassesOwn.leaving rfl di_rng1 (pi_range1 rfl T.z_range (da_Call (de_callB (o_len (K := K)) call_len_seq rfl T.z_len boot_len (da_Name (de_var (i := 7)) da_nil)) da_nil)) (dg_name (i := 8) sc_law.nd rfl (Or.inr rfl))
      (dss_cons (ds_for PassesOwn.leaving rfl di_rng1 (pi_range1 rfl T.z_range (da_Name (de_var (i := 5)) da_nil)) (dg_name (i := 9) sc_law.nd rfl (Or.inr rfl))
      (dss_cons (ds_if (dt_not (dt_truth (de_same T.D__law_same S0 (hr.mono (by omega)) rfl (da_Call (de_meth T.cls_Plan T.mt_Plan__seat A2.F_Plan__seat (hr.mono (by omega)) T.B_Plan__seat hp (de_var (i := 6)) (da_Name (de_var (i := 8)) (da_Name (de_var (i := 9)) da_nil))) (da_Subscript (de_ix (de_ix (de_var (i := 7)) (de_var (i := 8))) (de_var (i := 9))) da_nil))) (fun _ => rfl))) (dss_cons (ds_ret de_bl)
      dss_nil) dss_nil)
      dss_nil))
      dss_nil))⟩
theorem st_6 {a : Adr} {σ0 : L2.St} {A : Around} {outer : List Env} {s : Shared} {H : Hp} {E : XK} (T : Txt w K mg a) (S0 : FnOk P w K mg base CX0 15 a.f__law_same a.d__law_same ["_law_found", "_law_due"] (spSameN 13)) (A2 : All P w K mg base a 6) (AL : All P w K mg base a 4) (hr : Room 59 (cxOf (CXE P w) P w K mg base ["_law_script", "_law_k", "_law_row", "_law_some", "_law_kind", "_law_t", "_law_plan", "_law_rows_here", "_law_at", "_law_table"] "law" (defScope s_law) a.f_law (.ref a.code) A outer s H E).A) (hp : Passes (CXE P w) (cxOf (CXE P w) P w K mg base ["_law_script", "_law_k", "_law_row", "_law_some", "_law_kind", "_law_t", "_law_plan", "_law_rows_here", "_law_at", "_law_table"] "law" (defScope s_law) a.f_law (.ref a.code) A outer s H E) E) (LH : LamHd (cn a) (cxOf (CXE P w) P w K mg base ["_law_script", "_law_k", "_law_row", "_law_some", "_law_kind", "_law_t", "_law_plan", "_law_rows_here", "_law_at", "_law_table"] "law" (defScope s_law) a.f_law (.ref a.code) A outer s H E) a.code) (hrT : Room (50 + 1) (cxOf (CXE P w) P w K mg base ["_law_script", "_law_k", "_law_row", "_law_some", "_law_kind", "_law_t", "_law_plan", "_law_rows_here", "_law_at", "_law_table"] "law" (defScope s_law) a.f_law (.ref a.code) A outer s H E).A) (hrL : ∀ e1 e2, Room 50 (((cxOf (CXE P w) P w K mg base ["_law_script", "_law_k", "_law_row", "_law_some", "_law_kind", "_law_t", "_law_plan", "_law_rows_here", "_law_at", "_law_table"] "law" (defScope s_law) a.f_law (.ref a.code) A outer s H E).A.deeper e1).deeper e2)) :
    QS (cxOf (CXE P w) P w K mg base ["_law_script", "_law_k", "_law_row", "_law_some", "_law_kind", "_law_t", "_law_plan", "_law_rows_here", "_law_at", "_law_table"] "law" (defScope s_law) a.f_law (.ref a.code) A outer s H E) (lawB 6) (tS Pg (cn a) E 6 σ0 (.ife (.pr .notb [(.pr .truth [(.pr .same [(.comp 1 [6] (.rng1 [(.pr .mul [(.cst (.int 2)), (.var 5)])]) (.nm 0) none none (.meth 50 [102, 105, 101, 108, 100] 8 (.var 1) [(.var 0)])), (.pr .add [(.pr .mul [(.pr .lst [(.cst (.int 0))]), (.var 5)]), (.pr .mul [(.pr .lst [(.cst (.int 1))]), (.var 5)])])])])]) [(.ret (.cst (.bl false)))] [])) :=
  ⟨(ds_if (dt_not (dt_truth (de_same T.D__law_same S0 (hr.mono (by omega)) rfl (da_cons (de_comp1 (blk_ok (N' := ["_law_pair", "_law_plan"]) (nt := 1) (idx := [6]) (N := ["_law_script", "_law_k", "_law_row", "_law_some", "_law_kind", "_law_t", "_law_plan", "_law_rows_here", "_law_at", "_law_table"]) (osc := defScope s_law) rfl rfl (by decide +kernel)) rfl di_rng1 (pi_range1 rfl T.z_range (da_BinOp (de_op o_mul (L2.OpR.or op_mulX op_rep) de_int (de_var (i := 5))) da_nil)) (fun C0 s0 H0 fp0 => (dg_name (i := 0) (show List.Nodup (["_law_pair", "_law_plan"] : List Str) by decide +kernel) rfl (Or.inl rfl))) (fun C0 s0 H0 fp0 => dts_nil) (fun C0 s0 H0 fp0 => (de_meth T.cls_Plan T.mt_Plan__field A2.F_Plan__field (hr.mono (by omega)) T.B_Plan__field pass_blk (de_var (i := 1)) (da_Name (de_var (i := 0)) da_nil))) (by decide)) (da_BinOp (de_op o_add (L2.OpR.or op_add op_cat) (de_op o_mul (L2.OpR.or op_mulX op_rep) (de_lst (da_Constant de_int da_nil)) (de_var (i := 5))) (de_op o_mul (L2.OpR.or op_mulX op_rep) (de_lst (da_Constant de_int da_nil)) (de_var (i := 5)))) da_nil))) (fun _ => rfl))) (dss_cons (ds_ret de_bl)
      dss_nil) dss_nil)⟩
theorem st_7 {a : Adr} {σ0 : L2.St} {A : Around} {outer : List Env} {s : Shared} {H : Hp} {E : XK} (T : Txt w K mg a) (S0 : FnOk P w K mg base CX0 15 a.f__law_same a.d__law_same ["_law_found", "_law_due"] (spSameN 13)) (A2 : All P w K mg base a 6) (AL : All P w K mg base a 4) (hr : Room 59 (cxOf (CXE P w) P w K mg base ["_law_script", "_law_k", "_law_row", "_law_some", "_law_kind", "_law_t", "_law_plan", "_law_rows_here", "_law_at", "_law_table"] "law" (defScope s_law) a.f_law (.ref a.code) A outer s H E).A) (hp : Passes (CXE P w) (cxOf (CXE P w) P w K mg base ["_law_script", "_law_k", "_law_row", "_law_some", "_law_kind", "_law_t", "_law_plan", "_law_rows_here", "_law_at", "_law_table"] "law" (defScope s_law) a.f_law (.ref a.code) A outer s H E) E) (LH : LamHd (cn a) (cxOf (CXE P w) P w K mg base ["_law_script", "_law_k", "_law_row", "_law_some", "_law_kind", "_law_t", "_law_plan", "_law_rows_here", "_law_at", "_law_table"] "law" (defScope s_law) a.f_law (.ref a.code) A outer s H E) a.code) (hrT : Room (50 + 1) (cxOf (CXE P w) P w K mg base ["_law_script", "_law_k", "_law_row", "_law_some", "_law_kind", "_law_t", "_law_plan", "_law_rows_here", "_law_at", "_law_table"] "law" (defScope s_law) a.f_law (.ref a.code) A outer s H E).A) (hrL : ∀ e1 e2, Room 50 (((cxOf (CXE P w) P w K mg base ["_law_script", "_law_k", "_law_row", "_law_some", "_law_kind", "_law_t", "_law_plan", "_law_rows_here", "_law_at", "_law_table"] "law" (defScope s_law) a.f_law (.ref a.code) A outer s H E).A.deeper e1).deeper e2)) :
    QS (cxOf (CXE P w) P w K mg base ["_law_script", "_law_k", "_law_row", "_law_some", "_law_kind", "_law_t", "_law_plan", "_law_rows_here", "_law_at", "_law_table"] "law" (defScope s_law) a.f_law (.ref a.code) A outer s H E) (lawB 7) (tS Pg (cn a) E 6 σ0 (.asg (.nm 8) (.call 12 [(.pr .ix [(.var 2), (.cst (.int 1))]), (.pr .len [(.var 7)])]))) :=
  ⟨(ds_set (i := 8) sc_law.nd rfl (Or.inr rfl) (de_call (A2.F__law_far_of) (hr.mono (by omega)) rfl T.D__law_far_of.mg T.D__law_far_of.fn.kp T.D__law_far_of.bd hp (da_Subscript (de_ix (de_var (i := 2)) de_int) (da_Call (de_callB (o_len (K := K)) call_len_seq rfl T.z_len boot_len (da_Name (de_var (i := 7)) da_nil)) da_nil))))⟩
theorem st_8 {a : Adr} {σ0 : L2.St} {A : Around} {outer : List Env} {s : Shared} {H : Hp} {E : XK} (T : Txt w K mg a) (S0 : FnOk P w K mg base CX0 15 a.f__law_same a.d__law_same ["_law_found", "_law_due"] (spSameN 13)) (A2 : All P w K mg base a 6) (AL : All P w K mg base a 4) (hr : Room 59 (cxOf (CXE P w) P w K mg base ["_law_script", "_law_k", "_law_row", "_law_some", "_law_kind", "_law_t", "_law_plan", "_law_rows_here", "_law_at", "_law_table"] "law" (defScope s_law) a.f_law (.ref a.code) A outer s H E).A) (hp : Passes (CXE P w) (cxOf (CXE P w) P w K mg base ["_law_script", "_law_k", "_law_row", "_law_some", "_law_kind", "_law_t", "_law_plan", "_law_rows_here", "_law_at", "_law_table"] "law" (defScope s_law) a.f_law (.ref a.code) A outer s H E) E) (LH : LamHd (cn a) (cxOf (CXE P w) P w K mg base ["_law_script", "_law_k", "_law_row", "_law_some", "_law_kind", "_law_t", "_law_plan", "_law_rows_here", "_law_at", "_law_table"] "law" (defScope s_law) a.f_law (.ref a.code) A outer s H E) a.code) (hrT : Room (50 + 1) (cxOf (CXE P w) P w K mg base ["_law_script", "_law_k", "_law_row", "_law_some", "_law_kind", "_law_t", "_law_plan", "_law_rows_here", "_law_at", "_law_table"] "law" (defScope s_law) a.f_law (.ref a.code) A outer s H E).A) (hrL : ∀ e1 e2, Room 50 (((cxOf (CXE P w) P w K mg base ["_law_script", "_law_k", "_law_row", "_law_some", "_law_kind", "_law_t", "_law_plan", "_law_rows_here", "_law_at", "_law_table"] "law" (defScope s_law) a.f_law (.ref a.code) A outer s H E).A.deeper e1).deeper e2)) :
    QS (cxOf (CXE P w) P w K mg base ["_law_script", "_law_k", "_law_row", "_law_some", "_law_kind", "_law_t", "_law_plan", "_law_rows_here", "_law_at", "_law_table"] "law" (defScope s_law) a.f_law (.ref a.code) A outer s H E) (lawB 8) (tS Pg (cn a) E 6 σ0 (.asg (.nm 9) (.call 12 [(.pr .ix [(.var 2), (.cst (.int 2))]), (.var 5)]))) :=
  ⟨(ds_set (i := 9) sc_law.nd rfl (Or.inr rfl) (de_call (A2.F__law_far_of) (hr.mono (by omega)) rfl T.D__law_far_of.mg T.D__law_far_of.fn.kp T.D__law_far_of.bd hp (da_Subscript (de_ix (de_var (i := 2)) de_int) (da_Name (de_var (i := 5)) da_nil))))⟩
theorem st_9 {a : Adr} {σ0 : L2.St} {A : Around} {outer : List Env} {s : Shared} {H : Hp} {E : XK} (T : Txt w K mg a) (S0 : FnOk P w K mg base CX0 15 a.f__law_same a.d__law_same ["_law_found", "_law_due"] (spSameN 13)) (A2 : All P w K mg base a 6) (AL : All P w K mg base a 4) (hr : Room 59 (cxOf (CXE P w) P w K mg base ["_law_script", "_law_k", "_law_row", "_law_some", "_law_kind", "_law_t", "_law_plan", "_law_rows_here", "_law_at", "_law_table"] "law" (defScope s_law) a.f_law (.ref a.code) A outer s H E).A) (hp : Passes (CXE P w) (cxOf (CXE P w) P w K mg base ["_law_script", "_law_k", "_law_row", "_law_some", "_law_kind", "_law_t", "_law_plan", "_law_rows_here", "_law_at", "_law_table"] "law" (defScope s_law) a.f_law (.ref a.code) A outer s H E) E) (LH : LamHd (cn a) (cxOf (CXE P w) P w K mg base ["_law_script", "_law_k", "_law_row", "_law_some", "_law_kind", "_law_t", "_law_plan", "_law_rows_here", "_law_at", "_law_table"] "law" (defScope s_law) a.f_law (.ref a.code) A outer s H E) a.code) (hrT : Room (50 + 1) (cxOf (CXE P w) P w K mg base ["_law_script", "_law_k", "_law_row", "_law_some", "_law_kind", "_law_t", "_law_plan", "_law_rows_here", "_law_at", "_law_table"] "law" (defScope s_law) a.f_law (.ref a.code) A outer s H E).A) (hrL : ∀ e1 e2, Room 50 (((cxOf (CXE P w) P w K mg base ["_law_script", "_law_k", "_law_row", "_law_some", "_law_kind", "_law_t", "_law_plan", "_law_rows_here", "_law_at", "_law_table"] "law" (defScope s_law) a.f_law (.ref a.code) A outer s H E).A.deeper e1).deeper e2)) :
    QS (cxOf (CXE P w) P w K mg base ["_law_script", "_law_k", "_law_row", "_law_some", "_law_kind", "_law_t", "_law_plan", "_law_rows_here", "_law_at", "_law_table"] "law" (defScope s_law) a.f_law (.ref a.code) A outer s H E) (lawB 9) (tS Pg (cn a) E 6 σ0 (.ife (.pr .ne [(.told 4 [6, 8, 9] (.meth 50 [115, 101, 97, 116] 9 (.var 0) [(.var 1), (.var 2)])), (.pr .tup [(.cst (.str [110, 111])), (.cst (.str [110, 111, 32, 114, 111, 117, 110, 100]))])]) [(.ret (.cst (.bl false)))] [])) :=
  ⟨(ds_if (dt_cmp o_ne (op_neD hr.units) (de_told (w2 := "") (NT := []) (nx := 4) LH (fun _ => rfl) hrT T.D__law_told.fn sc__law_told T.D__law_told.bd rfl T.D__law_told.mg T.D__law_told.fn.kp rfl (by decide +kernel) (by decide +kernel) (by decide +kernel) rfl (Or.inl rfl) rfl T.mg_StandError T.xc_StandError (by decide) (by decide) (by decide) (by decide) (by decide) (hXs T)
      (blk_ok (N' := ["_law_plan", "_law_at", "_law_table"]) (nt := 0) (idx := [6, 8, 9]) (N := ["_law_script", "_law_k", "_law_row", "_law_some", "_law_kind", "_law_t", "_law_plan", "_law_rows_here", "_law_at", "_law_table"]) (osc := defScope s_law) rfl rfl (by decide +kernel)) rfl rfl rfl (fun _ _ _ _ _ => rfl)
      (fun cdv s1 H1 E2 E' pn f c' clos s H E3 => by
        exact (de_meth T.cls_Plan T.mt_Plan__seat AL.F_Plan__seat ((hrL _ _).mono (by omega)) T.B_Plan__seat (passes_e (E := E3) Own.lam rfl (fun _ _ _ z => z)) (de_var (i := 0)) (da_Name (de_var (i := 1)) (da_Name (de_var (i := 2)) da_nil))))) (de_tup (da_Constant (de_str [110, 111]) (da_Constant (de_str [110, 111, 32, 114, 111, 117, 110, 100]) da_nil))) (nomark _)) (dss_cons (ds_ret de_bl)
      dss_nil) dss_nil)⟩
theorem st_10 {a : Adr} {σ0 : L2.St} {A : Around} {outer : List Env} {s : Shared} {H : Hp} {E : XK} (T : Txt w K mg a) (S0 : FnOk P w K mg base CX0 15 a.f__law_same a.d__law_same ["_law_found", "_law_due"] (spSameN 13)) (A2 : All P w K mg base a 6) (AL : All P w K mg base a 4) (hr : Room 59 (cxOf (CXE P w) P w K mg base ["_law_script", "_law_k", "_law_row", "_law_some", "_law_kind", "_law_t", "_law_plan", "_law_rows_here", "_law_at", "_law_table"] "law" (defScope s_law) a.f_law (.ref a.code) A outer s H E).A) (hp : Passes (CXE P w) (cxOf (CXE P w) P w K mg base ["_law_script", "_law_k", "_law_row", "_law_some", "_law_kind", "_law_t", "_law_plan", "_law_rows_here", "_law_at", "_law_table"] "law" (defScope s_law) a.f_law (.ref a.code) A outer s H E) E) (LH : LamHd (cn a) (cxOf (CXE P w) P w K mg base ["_law_script", "_law_k", "_law_row", "_law_some", "_law_kind", "_law_t", "_law_plan", "_law_rows_here", "_law_at", "_law_table"] "law" (defScope s_law) a.f_law (.ref a.code) A outer s H E) a.code) (hrT : Room (50 + 1) (cxOf (CXE P w) P w K mg base ["_law_script", "_law_k", "_law_row", "_law_some", "_law_kind", "_law_t", "_law_plan", "_law_rows_here", "_law_at", "_law_table"] "law" (defScope s_law) a.f_law (.ref a.code) A outer s H E).A) (hrL : ∀ e1 e2, Room 50 (((cxOf (CXE P w) P w K mg base ["_law_script", "_law_k", "_law_row", "_law_some", "_law_kind", "_law_t", "_law_plan", "_law_rows_here", "_law_at", "_law_table"] "law" (defScope s_law) a.f_law (.ref a.code) A outer s H E).A.deeper e1).deeper e2)) :
    QS (cxOf (CXE P w) P w K mg base ["_law_script", "_law_k", "_law_row", "_law_some", "_law_kind", "_law_t", "_law_plan", "_law_rows_here", "_law_at", "_law_table"] "law" (defScope s_law) a.f_law (.ref a.code) A outer s H E) (lawB 10) (tS Pg (cn a) E 6 σ0 (.ife (.pr .ne [(.told 4 [6, 7, 9] (.meth 50 [115, 101, 97, 116] 9 (.var 0) [(.pr .sub [(.pr .len [(.var 1)]), (.cst (.int 1))]), (.var 2)])), (.pr .tup [(.cst (.str [110, 111])), (.cst (.str [110, 111, 32, 116, 97, 98, 108, 101]))])]) [(.ret (.cst (.bl false)))] [])) :=
  ⟨(ds_if (dt_cmp o_ne (op_neD hr.units) (de_told (w2 := "") (NT := []) (nx := 4) LH (fun _ => rfl) hrT T.D__law_told.fn sc__law_told T.D__law_told.bd rfl T.D__law_told.mg T.D__law_told.fn.kp rfl (by decide +kernel) (by decide +kernel) (by decide +kernel) rfl (Or.inl rfl) rfl T.mg_StandError T.xc_StandError (by decide) (by decide) (by decide) (by decide) (by decide) (hXs T)
      (blk_ok (N' := ["_law_plan", "_law_rows_here", "_law_table"]) (nt := 0) (idx := [6, 7, 9]) (N := ["_law_script", "_law_k", "_law_row", "_law_some", "_law_kind", "_law_t", "_law_plan", "_law_rows_here", "_law_at", "_law_table"]) (osc := defScope s_law) rfl rfl (by decide +kernel)) rfl rfl rfl (fun _ _ _ _ _ => rfl)
      (fun cdv s1 H1 E2 E' pn f c' clos s H E3 => by
        exact (de_meth T.cls_Plan T.mt_Plan__seat AL.F_Plan__seat ((hrL _ _).mono (by omega)) T.B_Plan__seat (passes_e (E := E3) Own.lam rfl (fun _ _ _ z => z)) (de_var (i := 0)) (da_BinOp (de_op o_sub op_sub (de_callB (o_len (K := K)) call_len_seq rfl T.z_len boot_len (da_Name (de_var (i := 1)) da_nil)) de_int) (da_Name (de_var (i := 2)) da_nil))))) (de_tup (da_Constant (de_str [110, 111]) (da_Constant (de_str [110, 111, 32, 116, 97, 98, 108, 101]) da_nil))) (nomark _)) (dss_cons (ds_ret de_bl)
      dss_nil) dss_nil)⟩
theorem st_11 {a : Adr} {σ0 : L2.St} {A : Around} {outer : List Env} {s : Shared} {H : Hp} {E : XK} (T : Txt w K mg a) (S0 : FnOk P w K mg base CX0 15 a.f__law_same a.d__law_same ["_law_found", "_law_due"] (spSameN 13)) (A2 : All P w K mg base a 6) (AL : All P w K mg base a 4) (hr : Room 59 (cxOf (CXE P w) P w K mg base ["_law_script", "_law_k", "_law_row", "_law_some", "_law_kind", "_law_t", "_law_plan", "_law_rows_here", "_law_at", "_law_table"] "law" (defScope s_law) a.f_law (.ref a.code) A outer s H E).A) (hp : Passes (CXE P w) (cxOf (CXE P w) P w K mg base ["_law_script", "_law_k", "_law_row", "_law_some", "_law_kind", "_law_t", "_law_plan", "_law_rows_here", "_law_at", "_law_table"] "law" (defScope s_law) a.f_law (.ref a.code) A outer s H E) E) (LH : LamHd (cn a) (cxOf (CXE P w) P w K mg base ["_law_script", "_law_k", "_law_row", "_law_some", "_law_kind", "_law_t", "_law_plan", "_law_rows_here", "_law_at", "_law_table"] "law" (defScope s_law) a.f_law (.ref a.code) A outer s H E) a.code) (hrT : Room (50 + 1) (cxOf (CXE P w) P w K mg base ["_law_script", "_law_k", "_law_row", "_law_some", "_law_kind", "_law_t", "_law_plan", "_law_rows_here", "_law_at", "_law_table"] "law" (defScope s_law) a.f_law (.ref a.code) A outer s H E).A) (hrL : ∀ e1 e2, Room 50 (((cxOf (CXE P w) P w K mg base ["_law_script", "_law_k", "_law_row", "_law_some", "_law_kind", "_law_t", "_law_plan", "_law_rows_here", "_law_at", "_law_table"] "law" (defScope s_law) a.f_law (.ref a.code) A outer s H E).A.deeper e1).deeper e2)) :
    QS (cxOf (CXE P w) P w K mg base ["_law_script", "_law_k", "_law_row", "_law_some", "_law_kind", "_law_t", "_law_plan", "_law_rows_here", "_law_at", "_law_table"] "law" (defScope s_law) a.f_law (.ref a.code) A outer s H E) (lawB 11) (tS Pg (cn a) E 6 σ0 (.ife (.pr .ne [(.told 4 [2, 5, 6] (.meth 50 [102, 105, 101, 108, 100] 8 (.var 2) [(.call 12 [(.pr .ix [(.var 0), (.cst (.int 3))]), (.pr .mul [(.cst (.int 2)), (.var 1)])])])), (.pr .tup [(.cst (.str [110, 111])), (.cst (.str [110, 111, 32, 112, 97, 105, 114]))])]) [(.ret (.cst (.bl false)))] [])) :=
  ⟨(ds_if (dt_cmp o_ne (op_neD hr.units) (de_told (w2 := "") (NT := []) (nx := 4) LH (fun _ => rfl) hrT T.D__law_told.fn sc__law_told T.D__law_told.bd rfl T.D__law_told.mg T.D__law_told.fn.kp rfl (by decide +kernel) (by decide +kernel) (by decide +kernel) rfl (Or.inl rfl) rfl T.mg_StandError T.xc_StandError (by decide) (by decide) (by decide) (by decide) (by decide) (hXs T)
      (blk_ok (N' := ["_law_row", "_law_t", "_law_plan"]) (nt := 0) (idx := [2, 5, 6]) (N := ["_law_script", "_law_k", "_law_row", "_law_some", "_law_kind", "_law_t", "_law_plan", "_law_rows_here", "_law_at", "_law_table"]) (osc := defScope s_law) rfl rfl (by decide +kernel)) rfl rfl rfl (fun _ _ _ _ _ => rfl)
      (fun cdv s1 H1 E2 E' pn f c' clos s H E3 => by
        exact (de_meth T.cls_Plan T.mt_Plan__field AL.F_Plan__field ((hrL _ _).mono (by omega)) T.B_Plan__field (passes_e (E := E3) Own.lam rfl (fun _ _ _ z => z)) (de_var (i := 2)) (da_Call (de_call (AL.F__law_far_of) ((hrL _ _).mono (by omega)) rfl T.D__law_far_of.mg T.D__law_far_of.fn.kp T.D__law_far_of.bd (passes_e (E := E3) Own.lam rfl (fun _ _ _ z => z)) (da_Subscript (de_ix (de_var (i := 0)) de_int) (da_BinOp (de_op o_mul (L2.OpR.or op_mulX op_rep) de_int (de_var (i := 1))) da_nil))) da_nil)))) (de_tup (da_Constant (de_str [110, 111]) (da_Constant (de_str [110, 111, 32, 112, 97, 105, 114]) da_nil))) (nomark _)) (dss_cons (ds_ret de_bl)
      dss_nil) dss_nil)⟩
theorem ok_law {a : Adr} (T : Txt w K mg a) {oc kV doc pm ct : Value} {od an : Option Addr} {osl : Array (Option Value)}
    (lk : K.lookup a.f_law = some ⟨oc, od, .func (PySem.W.fnOf "law" "law" (defArgs s_law) (defBody s_law) (defScope s_law) .none kV doc pm an (.ref a.code) ct), osl⟩) (hcd : PySem.W.codeIn K (.ref a.code) "law" = true)
    (hch : PySem.W.codeHdIn K a.code a.tbl = true) (KX : K.In base) (bm : base.BuiltinsAt mg a.tbl) :
    FnOk P w K mg base (CXE P w) 60 a.f_law (PySem.W.fnOf "law" "law" (defArgs s_law) (defBody s_law) (defScope s_law) .none kV doc pm an (.ref a.code) ct) ["_law_script"] (spLawT K a.tbl) := by
  have S0 := ok__law_same (P := P) (w := w) (base := base) T 13
  have G__law_draw := ok__law_draw (P := P) (w := w) (base := base) T
  have G__law_cell := ok__law_cell (P := P) (w := w) (base := base) T
  have A2 : All P w K mg base a 6 := all_at T 6
  have AL : All P w K mg base a 4 := all_at T 4
  refine fn_of (k := 59) lk hcd sc_law (fun vs H Q E h => ?_) (fun A outer s H vs Q E hr h => ?_)
  · obtain ⟨_, _, rfl, _⟩ := h
    rfl
  obtain ⟨l, ns, rfl, hO, hS, h63, q⟩ := h
  have hp : Passes (CXE P w) (cxOf (CXE P w) P w K mg base ["_law_script", "_law_k", "_law_row", "_law_some", "_law_kind", "_law_t", "_law_plan", "_law_rows_here", "_law_at", "_law_table"] "law" (defScope s_law) a.f_law (.ref a.code) A outer s H E) E := passes_e ⟨rfl, rfl, rfl⟩ rfl (fun _ _ _ z => z)
  have LH : LamHd (cn a) (cxOf (CXE P w) P w K mg base ["_law_script", "_law_k", "_law_row", "_law_some", "_law_kind", "_law_t", "_law_plan", "_law_rows_here", "_law_at", "_law_table"] "law" (defScope s_law) a.f_law (.ref a.code) A outer s H E) a.code := ⟨rfl, rfl, PySem.W.codeHd_of_K KX hch, bm, rfl⟩
  have hrT : Room (50 + 1) (cxOf (CXE P w) P w K mg base ["_law_script", "_law_k", "_law_row", "_law_some", "_law_kind", "_law_t", "_law_plan", "_law_rows_here", "_law_at", "_law_table"] "law" (defScope s_law) a.f_law (.ref a.code) A outer s H E).A := hr.mono (by omega)
  have hrL : ∀ e1 e2, Room 50 (((cxOf (CXE P w) P w K mg base ["_law_script", "_law_k", "_law_row", "_law_some", "_law_kind", "_law_t", "_law_plan", "_law_rows_here", "_law_at", "_law_table"] "law" (defScope s_law) a.f_law (.ref a.code) A outer s H E).A.deeper e1).deeper e2) := fun e1 e2 => ((hr.mono (show 52 ≤ 59 by omega)).deeper e1).deeper e2
  refine ⟨_, (pss_cons (qs_for PassesOwn.leaving rfl (pi_range1 rfl T.z_range (pa_cons pe_int pa_nil)) (pg_name (i := 1) sc_law.nd rfl (Or.inl rfl))
    (qss_cons (ps_set (i := 2) sc_law.nd rfl (Or.inr rfl) (pe_cd T.D__law_draw G__law_draw (hr.mono (by omega)) rfl (pa_cons (pe_cd T.D__law_cell G__law_cell (hr.mono (by omega)) rfl (pa_cons (pv 0) (pa_cons (pv 1) pa_nil))) (pa_cons (pe_lst (pa_cons pe_int (pa_cons pe_int (pa_cons pe_int (pa_cons pe_int pa_nil))))) pa_nil))))
    (qss_st (Pg := Pg) (cl := cn a) (E := E) (d := 6) (a := tl0) fun σ0 => (qsx_cons (st_1 T S0 A2 AL hr hp LH hrT hrL)
      (qsx_cons (st_2 T S0 A2 AL hr hp LH hrT hrL)
      (qsx_end (qss_st (a := tl1) fun σ0 => (qsx_cons (st_3 T S0 A2 AL hr hp LH hrT hrL)
      (qsx_cons (st_4 T S0 A2 AL hr hp LH hrT hrL)
      (qsx_cons (st_5 T S0 A2 AL hr hp LH hrT hrL)
      (qsx_cons (st_6 T S0 A2 AL hr hp LH hrT hrL)
      (qsx_end (qss_st (a := tl2) fun σ0 => (qsx_cons (st_7 T S0 A2 AL hr hp LH hrT hrL)
      (qsx_cons (st_8 T S0 A2 AL hr hp LH hrT hrL)
      (qsx_cons (st_9 T S0 A2 AL hr hp LH hrT hrL)
      (qsx_cons (st_10 T S0 A2 AL hr hp LH hrT hrL)
      (qsx_cons (st_11 T S0 A2 AL hr hp LH hrT hrL)
      (qsx_end qss_nil)))))))))))))))))))
    (pss_one (ps_ret pe_bl))), ?_⟩
  refine ⟨2, rfl, by decide, by decide, for_range (n := 2) (fun i σ H2 => ∃ vs : List (Option V), σ = some (.ref l) :: vs ∧ vs.length = 9 ∧ Tb (cn a) H2 ∧ SqL K H2 l (ns.map V.int)) ⟨_, rfl, rfl, tb_only hO rfl, hS⟩ ?_ ?_⟩
  · rintro i σ H2 hi ⟨vs, rfl, hvl, t2, s2⟩
    obtain ⟨v1, v2, v3, v4, v5, v6, v7, v8, v9, rfl⟩ : ∃ v1 v2 v3 v4 v5 v6 v7 v8 v9, vs = [v1, v2, v3, v4, v5, v6, v7, v8, v9] := by
      match vs, hvl with
      | [v1, v2, v3, v4, v5, v6, v7, v8, v9], _ => exact ⟨_, _, _, _, _, _, _, _, _, rfl⟩
    refine ⟨_, rfl, _, rfl, l, ns, _, rfl, s2, h63, by omega, fun cz => ?_⟩
    refine ⟨(by show 4 ≤ sizeLine; decide), fun pl hpl => ?_⟩
    refine ⟨cz, pl, [10, 5, 5, 5], rfl, upd_same, by decide, ?_, fun r ds H3 hr3 s3 hD hr3' => ?_⟩
    · intro z hz
      have : z = 10 ∨ z = 5 ∨ z = 5 ∨ z = 5 := by simpa using hz
      exact ⟨by omega, sml_small (by omega) (by omega)⟩
    obtain ⟨r0, r1, r2, r3, rfl, h0, h1, h2, h3⟩ := four hD
    have sA : Same H2 H3 := (same_new hpl _).trans s3
    have t3 : Tb (cn a) H3 := ((Sim.none t2).same sA).1.tb
    have nr : H2 r = none := (same_new hpl _).free hr3
    obtain ⟨τ1, g1h, e1, f1⟩ := goes_of (List.all_eq_true.mp (List.all_eq_true.mp (List.all_eq_true.mp (List.all_eq_true.mp run0 r0 (ten_mem h0)) r1 (five_mem h1)) r2 (five_mem h2)) r3 (five_mem h3))
    unfold g0 at f1
    simp only [Bool.and_eq_true, decide_eq_true_eq] at f1
    obtain ⟨⟨⟨⟨⟨a1, a2⟩, a3⟩, a4⟩, a5⟩, a6⟩ := f1
    have rws : ∀ ρ, RWs ρ [.int r0, .int r1, .int r2, .int r3] ([r0, r1, r2, r3].map V.int) := fun ρ => rw_ints ρ [r0, r1, r2, r3]
    refine stage (σ := [some (.ref l), some (.int (0 + i)), some (.ref r), v3, v4, v5, v6, v7, v8, v9]) (ρ := [] ++ [r]) (τ := [none, none, some (.ref 0), none, none, none, none, none, none, none]) (h := (Hs.mk 0 .lf).push (rowW r0 r1 r2 r3)) ((Sim.none t3).adopt (o := rowW r0 r1 r2 r3) (by simp) ⟨_, rws _, hr3'⟩) (.cons trivial (.cons trivial (.cons (RW.ref rfl) (.cons trivial (.cons trivial (.cons trivial (.cons trivial (.cons trivial (.cons trivial (.cons trivial .nil)))))))))) e1 fun ρ1 H4 σ4 b1 s4 rs1 ag1 => ?_
    have c0 : σ4[0]? = some (some (.ref l)) := ag1.at a2 rfl
    have rr : ρ1[0]? = some r := pre_get b1.1 rfl
    have c2 : σ4[2]? = some (some (.ref r)) := ref_at rs1 a3 rr
    have cl4 : σ4.length = 10 := by rw [← rs1.len]; exact Nat.eq_of_beq_eq_true a1
    have row4 : H4 r = some (.lst ([r0, r1, r2, r3].map V.int)) := by
      obtain ⟨vs, r', e⟩ := s4.at rr a6
      rw [e, r'.inj (rws _)]
    obtain ⟨τ2, g2h, e2, f2⟩ := goes_of (run1 h0)
    unfold g1 at f2
    simp only [Bool.and_eq_true, decide_eq_true_eq] at f2
    obtain ⟨⟨⟨d1, d2⟩, d3⟩, d4⟩ := f2
    refine stage (ρ := []) (τ := [none, none, none, none, some (.str (kt r0).1), some (.int (kt r0).2), none, none, none, none]) (h := .mk 0 .lf) (Sim.none s4.tb) (RS.of cl4.symm fun i w e => ?_) e2 fun ρ2 H5 σ5 b2 s5 rs2 ag2 => ?_
    · match i, e with
      | 0, e => cases e
      | 1, e => cases e
      | 2, e => cases e
      | 3, e => cases e
      | 6, e => cases e
      | 7, e => cases e
      | 8, e => cases e
      | 9, e => cases e
      | n + 10, e => cases e
      | 4, e => cases e; exact val_at _ rs1 a4 (fun _ z => by cases z)
      | 5, e => cases e; exact val_at _ rs1 a5 (fun _ z => by cases z)
    have k0 : σ5[0]? = some (some (.ref l)) := ag2.at d2 c0
    have k2 : σ5[2]? = some (some (.ref r)) := ag2.at d3 c2
    have row5 : H5 r = some (.lst ([r0, r1, r2, r3].map V.int)) := b2.kept s4.tb (fun _ z => by cases z) (by simp) row4
    have nr5 : r ∉ ρ2 := (b2.2 r _ row4 (by simp)).1
    obtain ⟨τ3, g3h, e3, f3⟩ := goes_of (List.all_eq_true.mp (List.all_eq_true.mp (List.all_eq_true.mp d4 r1 (five_mem h1)) r2 (five_mem h2)) r3 (five_mem h3))
    unfold g2 at f3
    simp only [Bool.and_eq_true, decide_eq_true_eq] at f3
    have rs3 : RS (ρ2 ++ [r]) (setAt τ2 (some (.ref g2h.n)) 2) σ5 := by
      have z := (rs2.mono (List.prefix_append ρ2 [r])).set (w := .ref g2h.n) (v := .ref r) (.ref (by rw [← s5.len, List.getElem?_append_right (Nat.le_refl _), Nat.sub_self]; rfl)) 2
      rw [set_self k2] at z
      exact z
    refine stage (h := g2h.push (rowW r0 r1 r2 r3)) (s5.adopt (o := rowW r0 r1 r2 r3) nr5 ⟨_, rws _, row5⟩) rs3 e3 fun ρ3 H6 σ6 b3 s6 rs4 ag3 => ?_
    obtain ⟨ws, ew, hw⟩ := head_of (n := 9) (ag3.at f3.2 k0) (by rw [← rs4.len]; exact Nat.eq_of_beq_eq_true f3.1)
    exact ⟨ws, ew, hw, s6.tb, SqL.kept s2 fun u nu eu => by
      have nlr : l ≠ r := fun z => by rw [z, nr] at eu; cases eu
      have u4 := b1.kept t3 nu (by simpa using nlr) (sA _ _ eu)
      have u5 := b2.kept s4.tb nu (by simp) u4
      refine b3.kept s5.tb nu (fun z => ?_) u5
      rcases List.mem_append.mp z with z | z
      · exact (b2.2 l _ u4 (by simp)).1 z
      · exact nlr (by simpa using z)⟩
  · rintro σ H2 ⟨vs, rfl, _⟩
    exact q H2
end
end My

set_option maxRecDepth 1000000
set_option maxHeartbeats 4000000
namespace My
open PySem L2 PyProof.Rows Ev
theorem all_mk {l : PySem.W.OpenLaw} {w : World} {K : PySem.W.Frag} {h : Heap} {mg : Str → Option Value} {fa tbl : Addr} {f_trios_of f__law_mixed f__law_draw f__law_cell f__law_num f__law_same f__law_told f__law_rows f__law_far_of f_law code c_StandError c_BadPlan c_NoRound c_NoTable c_NoPair c_Plan f_Plan____init__ f_Plan__rounds f_Plan__sets f_Plan__pairs f_Plan__need_round f_Plan__need_table f_Plan__need_pair f_Plan__field f_Plan__seat f_Plan__two_field_seat f_StandError____init__ f_BadPlan____init__ f_NoRound____init__ f_NoTable____init__ f_NoPair____init__ g_TABLES_OF ta0_TABLES_OF ta1_TABLES_OF ta2_TABLES_OF ta3_TABLES_OF : Addr} (X : K.In h) (G : h.Ns mainGlobals mg) (hfa : mg "law" = some (.ref fa))
    {od_trios_of an_trios_of od__law_mixed an__law_mixed od__law_draw an__law_draw od__law_cell an__law_cell od__law_num an__law_num od__law_same an__law_same od__law_told an__law_told od__law_rows an__law_rows od__law_far_of an__law_far_of od_law an_law od_Plan____init__ an_Plan____init__ od_Plan__rounds an_Plan__rounds od_Plan__sets an_Plan__sets od_Plan__pairs an_Plan__pairs od_Plan__need_round an_Plan__need_round od_Plan__need_table an_Plan__need_table od_Plan__need_pair an_Plan__need_pair od_Plan__field an_Plan__field od_Plan__seat an_Plan__seat od_Plan__two_field_seat an_Plan__two_field_seat od_StandError____init__ an_StandError____init__ od_BadPlan____init__ an_BadPlan____init__ od_NoRound____init__ an_NoRound____init__ od_NoTable____init__ an_NoTable____init__ od_NoPair____init__ an_NoPair____init__ tod0_TABLES_OF tod1_TABLES_OF tod2_TABLES_OF tod3_TABLES_OF : Option Addr} {sl_trios_of sl__law_mixed sl__law_draw sl__law_cell sl__law_num sl__law_same sl__law_told sl__law_rows sl__law_far_of sl_law sl_Plan____init__ sl_Plan__rounds sl_Plan__sets sl_Plan__pairs sl_Plan__need_round sl_Plan__need_table sl_Plan__need_pair sl_Plan__field sl_Plan__seat sl_Plan__two_field_seat sl_StandError____init__ sl_BadPlan____init__ sl_NoRound____init__ sl_NoTable____init__ sl_NoPair____init__ tsl0_TABLES_OF tsl1_TABLES_OF tsl2_TABLES_OF tsl3_TABLES_OF : Array (Option Value)} {oc_trios_of kV_trios_of dc_trios_of pm_trios_of ct_trios_of cd_trios_of oc__law_mixed kV__law_mixed dc__law_mixed pm__law_mixed ct__law_mixed cd__law_mixed oc__law_draw kV__law_draw dc__law_draw pm__law_draw ct__law_draw cd__law_draw oc__law_cell kV__law_cell dc__law_cell pm__law_cell ct__law_cell cd__law_cell oc__law_num kV__law_num dc__law_num pm__law_num ct__law_num cd__law_num oc__law_same kV__law_same dc__law_same pm__law_same ct__law_same cd__law_same oc__law_told kV__law_told dc__law_told pm__law_told ct__law_told cd__law_told oc__law_rows kV__law_rows dc__law_rows pm__law_rows ct__law_rows cd__law_rows oc__law_far_of kV__law_far_of dc__law_far_of pm__law_far_of ct__law_far_of cd__law_far_of oc_law kV_law dc_law pm_law ct_law oc_Plan____init__ kV_Plan____init__ dc_Plan____init__ pm_Plan____init__ ct_Plan____init__ cd_Plan____init__ oc_Plan__rounds kV_Plan__rounds dc_Plan__rounds pm_Plan__rounds ct_Plan__rounds cd_Plan__rounds oc_Plan__sets kV_Plan__sets dc_Plan__sets pm_Plan__sets ct_Plan__sets cd_Plan__sets oc_Plan__pairs kV_Plan__pairs dc_Plan__pairs pm_Plan__pairs ct_Plan__pairs cd_Plan__pairs oc_Plan__need_round kV_Plan__need_round dc_Plan__need_round pm_Plan__need_round ct_Plan__need_round cd_Plan__need_round oc_Plan__need_table kV_Plan__need_table dc_Plan__need_table pm_Plan__need_table ct_Plan__need_table cd_Plan__need_table oc_Plan__need_pair kV_Plan__need_pair dc_Plan__need_pair pm_Plan__need_pair ct_Plan__need_pair cd_Plan__need_pair oc_Plan__field kV_Plan__field dc_Plan__field pm_Plan__field ct_Plan__field cd_Plan__field oc_Plan__seat kV_Plan__seat dc_Plan__seat pm_Plan__seat ct_Plan__seat cd_Plan__seat oc_Plan__two_field_seat kV_Plan__two_field_seat dc_Plan__two_field_seat pm_Plan__two_field_seat ct_Plan__two_field_seat cd_Plan__two_field_seat oc_StandError____init__ kV_StandError____init__ dc_StandError____init__ pm_StandError____init__ ct_StandError____init__ cd_StandError____init__ oc_BadPlan____init__ kV_BadPlan____init__ dc_BadPlan____init__ pm_BadPlan____init__ ct_BadPlan____init__ cd_BadPlan____init__ oc_NoRound____init__ kV_NoRound____init__ dc_NoRound____init__ pm_NoRound____init__ ct_NoRound____init__ cd_NoRound____init__ oc_NoTable____init__ kV_NoTable____init__ dc_NoTable____init__ pm_NoTable____init__ ct_NoTable____init__ cd_NoTable____init__ oc_NoPair____init__ kV_NoPair____init__ dc_NoPair____init__ pm_NoPair____init__ ct_NoPair____init__ cd_NoPair____init__ : Value} {xn_StandError xq_StandError : Str} {xN_StandError : Addr} {xb_StandError xu_StandError : List Value} {xs_StandError : List Str} {xa_StandError : Bool} {xc_StandError : Option Bool} {xd_StandError : Option Addr} {x0_StandError x1_StandError x2_StandError x3_StandError x5_StandError : Option Value} {xn_BadPlan xq_BadPlan : Str} {xN_BadPlan : Addr} {xb_BadPlan xu_BadPlan : List Value} {xs_BadPlan : List Str} {xa_BadPlan : Bool} {xc_BadPlan : Option Bool} {xd_BadPlan : Option Addr} {x0_BadPlan x1_BadPlan x2_BadPlan x3_BadPlan x5_BadPlan : Option Value} {cd_BadPlan : ClassData} {xn_NoRound xq_NoRound : Str} {xN_NoRound : Addr} {xb_NoRound xu_NoRound : List Value} {xs_NoRound : List Str} {xa_NoRound : Bool} {xc_NoRound : Option Bool} {xd_NoRound : Option Addr} {x0_NoRound x1_NoRound x2_NoRound x3_NoRound x5_NoRound : Option Value} {cd_NoRound : ClassData} {xn_NoTable xq_NoTable : Str} {xN_NoTable : Addr} {xb_NoTable xu_NoTable : List Value} {xs_NoTable : List Str} {xa_NoTable : Bool} {xc_NoTable : Option Bool} {xd_NoTable : Option Addr} {x0_NoTable x1_NoTable x2_NoTable x3_NoTable x5_NoTable : Option Value} {cd_NoTable : ClassData} {xn_NoPair xq_NoPair : Str} {xN_NoPair : Addr} {xb_NoPair xu_NoPair : List Value} {xs_NoPair : List Str} {xa_NoPair : Bool} {xc_NoPair : Option Bool} {xd_NoPair : Option Addr} {x0_NoPair x1_NoPair x2_NoPair x3_NoPair x5_NoPair : Option Value} {cd_NoPair : ClassData} {ha0_TABLES_OF ha1_TABLES_OF ha2_TABLES_OF ha3_TABLES_OF : Int} {tt0_TABLES_OF tt1_TABLES_OF tt2_TABLES_OF tt3_TABLES_OF : Tok} {tn_TABLES_OF : Nat} {to0_0_TABLES_OF to0_1_TABLES_OF to0_2_TABLES_OF to0_3_TABLES_OF : Tok} {tz0_TABLES_OF : Nat} {to1_0_TABLES_OF to1_1_TABLES_OF to1_2_TABLES_OF : Tok} {tz1_TABLES_OF : Nat} {to2_0_TABLES_OF to2_1_TABLES_OF to2_2_TABLES_OF : Tok} {tz2_TABLES_OF : Nat} {to3_0_TABLES_OF to3_1_TABLES_OF to3_2_TABLES_OF to3_3_TABLES_OF to3_4_TABLES_OF : Tok} {tz3_TABLES_OF : Nat}
    (a_trios_of : PySem.W.nsIn K mainGlobals "trios_of" = some (some (.ref f_trios_of)))
    (l_trios_of : K.lookup f_trios_of = some ⟨oc_trios_of, od_trios_of, .func (PySem.W.fnOf "trios_of" "trios_of" (defArgs s_trios_of) (defBody s_trios_of) (defScope s_trios_of) .none kV_trios_of dc_trios_of pm_trios_of an_trios_of cd_trios_of ct_trios_of), sl_trios_of⟩)
    (cc_trios_of : PySem.W.codeIn K cd_trios_of "trios_of" = true)
    (kp_trios_of : PySem.W.keepIn K (.ref f_trios_of) = true)
    (a__law_mixed : PySem.W.nsIn K mainGlobals "_law_mixed" = some (some (.ref f__law_mixed)))
    (l__law_mixed : K.lookup f__law_mixed = some ⟨oc__law_mixed, od__law_mixed, .func (PySem.W.fnOf "_law_mixed" "_law_mixed" (defArgs s__law_mixed) (defBody s__law_mixed) (defScope s__law_mixed) .none kV__law_mixed dc__law_mixed pm__law_mixed an__law_mixed cd__law_mixed ct__law_mixed), sl__law_mixed⟩)
    (cc__law_mixed : PySem.W.codeIn K cd__law_mixed "_law_mixed" = true)
    (kp__law_mixed : PySem.W.keepIn K (.ref f__law_mixed) = true)
    (a__law_draw : PySem.W.nsIn K mainGlobals "_law_draw" = some (some (.ref f__law_draw)))
    (l__law_draw : K.lookup f__law_draw = some ⟨oc__law_draw, od__law_draw, .func (PySem.W.fnOf "_law_draw" "_law_draw" (defArgs s__law_draw) (defBody s__law_draw) (defScope s__law_draw) .none kV__law_draw dc__law_draw pm__law_draw an__law_draw cd__law_draw ct__law_draw), sl__law_draw⟩)
    (cc__law_draw : PySem.W.codeIn K cd__law_draw "_law_draw" = true)
    (kp__law_draw : PySem.W.keepIn K (.ref f__law_draw) = true)
    (a__law_cell : PySem.W.nsIn K mainGlobals "_law_cell" = some (some (.ref f__law_cell)))
    (l__law_cell : K.lookup f__law_cell = some ⟨oc__law_cell, od__law_cell, .func (PySem.W.fnOf "_law_cell" "_law_cell" (defArgs s__law_cell) (defBody s__law_cell) (defScope s__law_cell) .none kV__law_cell dc__law_cell pm__law_cell an__law_cell cd__law_cell ct__law_cell), sl__law_cell⟩)
    (cc__law_cell : PySem.W.codeIn K cd__law_cell "_law_cell" = true)
    (kp__law_cell : PySem.W.keepIn K (.ref f__law_cell) = true)
    (a__law_num : PySem.W.nsIn K mainGlobals "_law_num" = some (some (.ref f__law_num)))
    (l__law_num : K.lookup f__law_num = some ⟨oc__law_num, od__law_num, .func (PySem.W.fnOf "_law_num" "_law_num" (defArgs s__law_num) (defBody s__law_num) (defScope s__law_num) .none kV__law_num dc__law_num pm__law_num an__law_num cd__law_num ct__law_num), sl__law_num⟩)
    (cc__law_num : PySem.W.codeIn K cd__law_num "_law_num" = true)
    (kp__law_num : PySem.W.keepIn K (.ref f__law_num) = true)
    (a__law_same : PySem.W.nsIn K mainGlobals "_law_same" = some (some (.ref f__law_same)))
    (l__law_same : K.lookup f__law_same = some ⟨oc__law_same, od__law_same, .func (PySem.W.fnOf "_law_same" "_law_same" (defArgs s__law_same) (defBody s__law_same) (defScope s__law_same) .none kV__law_same dc__law_same pm__law_same an__law_same cd__law_same ct__law_same), sl__law_same⟩)
    (cc__law_same : PySem.W.codeIn K cd__law_same "_law_same" = true)
    (kp__law_same : PySem.W.keepIn K (.ref f__law_same) = true)
    (a__law_told : PySem.W.nsIn K mainGlobals "_law_told" = some (some (.ref f__law_told)))
    (l__law_told : K.lookup f__law_told = some ⟨oc__law_told, od__law_told, .func (PySem.W.fnOf "_law_told" "_law_told" (defArgs s__law_told) (defBody s__law_told) (defScope s__law_told) .none kV__law_told dc__law_told pm__law_told an__law_told cd__law_told ct__law_told), sl__law_told⟩)
    (cc__law_told : PySem.W.codeIn K cd__law_told "_law_told" = true)
    (kp__law_told : PySem.W.keepIn K (.ref f__law_told) = true)
    (a__law_rows : PySem.W.nsIn K mainGlobals "_law_rows" = some (some (.ref f__law_rows)))
    (l__law_rows : K.lookup f__law_rows = some ⟨oc__law_rows, od__law_rows, .func (PySem.W.fnOf "_law_rows" "_law_rows" (defArgs s__law_rows) (defBody s__law_rows) (defScope s__law_rows) .none kV__law_rows dc__law_rows pm__law_rows an__law_rows cd__law_rows ct__law_rows), sl__law_rows⟩)
    (cc__law_rows : PySem.W.codeIn K cd__law_rows "_law_rows" = true)
    (kp__law_rows : PySem.W.keepIn K (.ref f__law_rows) = true)
    (a__law_far_of : PySem.W.nsIn K mainGlobals "_law_far_of" = some (some (.ref f__law_far_of)))
    (l__law_far_of : K.lookup f__law_far_of = some ⟨oc__law_far_of, od__law_far_of, .func (PySem.W.fnOf "_law_far_of" "_law_far_of" (defArgs s__law_far_of) (defBody s__law_far_of) (defScope s__law_far_of) .none kV__law_far_of dc__law_far_of pm__law_far_of an__law_far_of cd__law_far_of ct__law_far_of), sl__law_far_of⟩)
    (cc__law_far_of : PySem.W.codeIn K cd__law_far_of "_law_far_of" = true)
    (kp__law_far_of : PySem.W.keepIn K (.ref f__law_far_of) = true)
    (a_law : PySem.W.nsIn K mainGlobals "law" = some (some (.ref f_law)))
    (l_law : K.lookup f_law = some ⟨oc_law, od_law, .func (PySem.W.fnOf "law" "law" (defArgs s_law) (defBody s_law) (defScope s_law) .none kV_law dc_law pm_law an_law (.ref code) ct_law), sl_law⟩)
    (cc_law : PySem.W.codeIn K (.ref code) "law" = true)
    (kp_law : PySem.W.keepIn K (.ref f_law) = true)
    (a_StandError : PySem.W.nsIn K mainGlobals "StandError" = some (some (.ref c_StandError)))
    (a_BadPlan : PySem.W.nsIn K mainGlobals "BadPlan" = some (some (.ref c_BadPlan)))
    (a_NoRound : PySem.W.nsIn K mainGlobals "NoRound" = some (some (.ref c_NoRound)))
    (a_NoTable : PySem.W.nsIn K mainGlobals "NoTable" = some (some (.ref c_NoTable)))
    (a_NoPair : PySem.W.nsIn K mainGlobals "NoPair" = some (some (.ref c_NoPair)))
    (a_Plan : PySem.W.nsIn K mainGlobals "Plan" = some (some (.ref c_Plan)))
    (fi_Plan____init__ : PySem.W.findIn K (.ref c_Plan) "__init__" = some (some (.ref f_Plan____init__)))
    (l_Plan____init__ : K.lookup f_Plan____init__ = some ⟨oc_Plan____init__, od_Plan____init__, .func (PySem.W.fnOf "__init__" "Plan.__init__" (defArgs s_Plan____init__) (defBody s_Plan____init__) (defScope s_Plan____init__) .none kV_Plan____init__ dc_Plan____init__ pm_Plan____init__ an_Plan____init__ cd_Plan____init__ ct_Plan____init__), sl_Plan____init__⟩)
    (cc_Plan____init__ : PySem.W.codeIn K cd_Plan____init__ "Plan.__init__" = true)
    (kp_Plan____init__ : PySem.W.keepIn K (.ref f_Plan____init__) = true)
    (fn_Plan____init__ : PySem.W.isFn K (.ref f_Plan____init__) = true)
    (fi_Plan__rounds : PySem.W.findIn K (.ref c_Plan) "rounds" = some (some (.ref f_Plan__rounds)))
    (l_Plan__rounds : K.lookup f_Plan__rounds = some ⟨oc_Plan__rounds, od_Plan__rounds, .func (PySem.W.fnOf "rounds" "Plan.rounds" (defArgs s_Plan__rounds) (defBody s_Plan__rounds) (defScope s_Plan__rounds) .none kV_Plan__rounds dc_Plan__rounds pm_Plan__rounds an_Plan__rounds cd_Plan__rounds ct_Plan__rounds), sl_Plan__rounds⟩)
    (cc_Plan__rounds : PySem.W.codeIn K cd_Plan__rounds "Plan.rounds" = true)
    (kp_Plan__rounds : PySem.W.keepIn K (.ref f_Plan__rounds) = true)
    (fn_Plan__rounds : PySem.W.isFn K (.ref f_Plan__rounds) = true)
    (fi_Plan__sets : PySem.W.findIn K (.ref c_Plan) "sets" = some (some (.ref f_Plan__sets)))
    (l_Plan__sets : K.lookup f_Plan__sets = some ⟨oc_Plan__sets, od_Plan__sets, .func (PySem.W.fnOf "sets" "Plan.sets" (defArgs s_Plan__sets) (defBody s_Plan__sets) (defScope s_Plan__sets) .none kV_Plan__sets dc_Plan__sets pm_Plan__sets an_Plan__sets cd_Plan__sets ct_Plan__sets), sl_Plan__sets⟩)
    (cc_Plan__sets : PySem.W.codeIn K cd_Plan__sets "Plan.sets" = true)
    (kp_Plan__sets : PySem.W.keepIn K (.ref f_Plan__sets) = true)
    (fn_Plan__sets : PySem.W.isFn K (.ref f_Plan__sets) = true)
    (fi_Plan__pairs : PySem.W.findIn K (.ref c_Plan) "pairs" = some (some (.ref f_Plan__pairs)))
    (l_Plan__pairs : K.lookup f_Plan__pairs = some ⟨oc_Plan__pairs, od_Plan__pairs, .func (PySem.W.fnOf "pairs" "Plan.pairs" (defArgs s_Plan__pairs) (defBody s_Plan__pairs) (defScope s_Plan__pairs) .none kV_Plan__pairs dc_Plan__pairs pm_Plan__pairs an_Plan__pairs cd_Plan__pairs ct_Plan__pairs), sl_Plan__pairs⟩)
    (cc_Plan__pairs : PySem.W.codeIn K cd_Plan__pairs "Plan.pairs" = true)
    (kp_Plan__pairs : PySem.W.keepIn K (.ref f_Plan__pairs) = true)
    (fn_Plan__pairs : PySem.W.isFn K (.ref f_Plan__pairs) = true)
    (fi_Plan__need_round : PySem.W.findIn K (.ref c_Plan) "need_round" = some (some (.ref f_Plan__need_round)))
    (l_Plan__need_round : K.lookup f_Plan__need_round = some ⟨oc_Plan__need_round, od_Plan__need_round, .func (PySem.W.fnOf "need_round" "Plan.need_round" (defArgs s_Plan__need_round) (defBody s_Plan__need_round) (defScope s_Plan__need_round) .none kV_Plan__need_round dc_Plan__need_round pm_Plan__need_round an_Plan__need_round cd_Plan__need_round ct_Plan__need_round), sl_Plan__need_round⟩)
    (cc_Plan__need_round : PySem.W.codeIn K cd_Plan__need_round "Plan.need_round" = true)
    (kp_Plan__need_round : PySem.W.keepIn K (.ref f_Plan__need_round) = true)
    (fn_Plan__need_round : PySem.W.isFn K (.ref f_Plan__need_round) = true)
    (fi_Plan__need_table : PySem.W.findIn K (.ref c_Plan) "need_table" = some (some (.ref f_Plan__need_table)))
    (l_Plan__need_table : K.lookup f_Plan__need_table = some ⟨oc_Plan__need_table, od_Plan__need_table, .func (PySem.W.fnOf "need_table" "Plan.need_table" (defArgs s_Plan__need_table) (defBody s_Plan__need_table) (defScope s_Plan__need_table) .none kV_Plan__need_table dc_Plan__need_table pm_Plan__need_table an_Plan__need_table cd_Plan__need_table ct_Plan__need_table), sl_Plan__need_table⟩)
    (cc_Plan__need_table : PySem.W.codeIn K cd_Plan__need_table "Plan.need_table" = true)
    (kp_Plan__need_table : PySem.W.keepIn K (.ref f_Plan__need_table) = true)
    (fn_Plan__need_table : PySem.W.isFn K (.ref f_Plan__need_table) = true)
    (fi_Plan__need_pair : PySem.W.findIn K (.ref c_Plan) "need_pair" = some (some (.ref f_Plan__need_pair)))
    (l_Plan__need_pair : K.lookup f_Plan__need_pair = some ⟨oc_Plan__need_pair, od_Plan__need_pair, .func (PySem.W.fnOf "need_pair" "Plan.need_pair" (defArgs s_Plan__need_pair) (defBody s_Plan__need_pair) (defScope s_Plan__need_pair) .none kV_Plan__need_pair dc_Plan__need_pair pm_Plan__need_pair an_Plan__need_pair cd_Plan__need_pair ct_Plan__need_pair), sl_Plan__need_pair⟩)
    (cc_Plan__need_pair : PySem.W.codeIn K cd_Plan__need_pair "Plan.need_pair" = true)
    (kp_Plan__need_pair : PySem.W.keepIn K (.ref f_Plan__need_pair) = true)
    (fn_Plan__need_pair : PySem.W.isFn K (.ref f_Plan__need_pair) = true)
    (fi_Plan__field : PySem.W.findIn K (.ref c_Plan) "field" = some (some (.ref f_Plan__field)))
    (l_Plan__field : K.lookup f_Plan__field = some ⟨oc_Plan__field, od_Plan__field, .func (PySem.W.fnOf "field" "Plan.field" (defArgs s_Plan__field) (defBody s_Plan__field) (defScope s_Plan__field) .none kV_Plan__field dc_Plan__field pm_Plan__field an_Plan__field cd_Plan__field ct_Plan__field), sl_Plan__field⟩)
    (cc_Plan__field : PySem.W.codeIn K cd_Plan__field "Plan.field" = true)
    (kp_Plan__field : PySem.W.keepIn K (.ref f_Plan__field) = true)
    (fn_Plan__field : PySem.W.isFn K (.ref f_Plan__field) = true)
    (fi_Plan__seat : PySem.W.findIn K (.ref c_Plan) "seat" = some (some (.ref f_Plan__seat)))
    (l_Plan__seat : K.lookup f_Plan__seat = some ⟨oc_Plan__seat, od_Plan__seat, .func (PySem.W.fnOf "seat" "Plan.seat" (defArgs s_Plan__seat) (defBody s_Plan__seat) (defScope s_Plan__seat) .none kV_Plan__seat dc_Plan__seat pm_Plan__seat an_Plan__seat cd_Plan__seat ct_Plan__seat), sl_Plan__seat⟩)
    (cc_Plan__seat : PySem.W.codeIn K cd_Plan__seat "Plan.seat" = true)
    (kp_Plan__seat : PySem.W.keepIn K (.ref f_Plan__seat) = true)
    (fn_Plan__seat : PySem.W.isFn K (.ref f_Plan__seat) = true)
    (fi_Plan__two_field_seat : PySem.W.findIn K (.ref c_Plan) "two_field_seat" = some (some (.ref f_Plan__two_field_seat)))
    (l_Plan__two_field_seat : K.lookup f_Plan__two_field_seat = some ⟨oc_Plan__two_field_seat, od_Plan__two_field_seat, .func (PySem.W.fnOf "two_field_seat" "Plan.two_field_seat" (defArgs s_Plan__two_field_seat) (defBody s_Plan__two_field_seat) (defScope s_Plan__two_field_seat) .none kV_Plan__two_field_seat dc_Plan__two_field_seat pm_Plan__two_field_seat an_Plan__two_field_seat cd_Plan__two_field_seat ct_Plan__two_field_seat), sl_Plan__two_field_seat⟩)
    (cc_Plan__two_field_seat : PySem.W.codeIn K cd_Plan__two_field_seat "Plan.two_field_seat" = true)
    (kp_Plan__two_field_seat : PySem.W.keepIn K (.ref f_Plan__two_field_seat) = true)
    (fn_Plan__two_field_seat : PySem.W.isFn K (.ref f_Plan__two_field_seat) = true)
    (fi_StandError____init__ : PySem.W.findIn K (.ref c_StandError) "__init__" = some (some (.ref f_StandError____init__)))
    (l_StandError____init__ : K.lookup f_StandError____init__ = some ⟨oc_StandError____init__, od_StandError____init__, .func (PySem.W.fnOf "__init__" "StandError.__init__" (defArgs s_StandError____init__) (defBody s_StandError____init__) (defScope s_StandError____init__) .none kV_StandError____init__ dc_StandError____init__ pm_StandError____init__ an_StandError____init__ cd_StandError____init__ ct_StandError____init__), sl_StandError____init__⟩)
    (cc_StandError____init__ : PySem.W.codeIn K cd_StandError____init__ "StandError.__init__" = true)
    (kp_StandError____init__ : PySem.W.keepIn K (.ref f_StandError____init__) = true)
    (ty_StandError____init__ : PySem.W.typeIn K (.ref f_StandError____init__) = some (.type "function"))
    (fi_BadPlan____init__ : PySem.W.findIn K (.ref c_BadPlan) "__init__" = some (some (.ref f_BadPlan____init__)))
    (l_BadPlan____init__ : K.lookup f_BadPlan____init__ = some ⟨oc_BadPlan____init__, od_BadPlan____init__, .func (PySem.W.fnOf "__init__" "BadPlan.__init__" (defArgs s_BadPlan____init__) (defBody s_BadPlan____init__) (defScope s_BadPlan____init__) .none kV_BadPlan____init__ dc_BadPlan____init__ pm_BadPlan____init__ an_BadPlan____init__ cd_BadPlan____init__ ct_BadPlan____init__), sl_BadPlan____init__⟩)
    (cc_BadPlan____init__ : PySem.W.codeIn K cd_BadPlan____init__ "BadPlan.__init__" = true)
    (kp_BadPlan____init__ : PySem.W.keepIn K (.ref f_BadPlan____init__) = true)
    (ty_BadPlan____init__ : PySem.W.typeIn K (.ref f_BadPlan____init__) = some (.type "function"))
    (fi_NoRound____init__ : PySem.W.findIn K (.ref c_NoRound) "__init__" = some (some (.ref f_NoRound____init__)))
    (l_NoRound____init__ : K.lookup f_NoRound____init__ = some ⟨oc_NoRound____init__, od_NoRound____init__, .func (PySem.W.fnOf "__init__" "NoRound.__init__" (defArgs s_NoRound____init__) (defBody s_NoRound____init__) (defScope s_NoRound____init__) .none kV_NoRound____init__ dc_NoRound____init__ pm_NoRound____init__ an_NoRound____init__ cd_NoRound____init__ ct_NoRound____init__), sl_NoRound____init__⟩)
    (cc_NoRound____init__ : PySem.W.codeIn K cd_NoRound____init__ "NoRound.__init__" = true)
    (kp_NoRound____init__ : PySem.W.keepIn K (.ref f_NoRound____init__) = true)
    (ty_NoRound____init__ : PySem.W.typeIn K (.ref f_NoRound____init__) = some (.type "function"))
    (fi_NoTable____init__ : PySem.W.findIn K (.ref c_NoTable) "__init__" = some (some (.ref f_NoTable____init__)))
    (l_NoTable____init__ : K.lookup f_NoTable____init__ = some ⟨oc_NoTable____init__, od_NoTable____init__, .func (PySem.W.fnOf "__init__" "NoTable.__init__" (defArgs s_NoTable____init__) (defBody s_NoTable____init__) (defScope s_NoTable____init__) .none kV_NoTable____init__ dc_NoTable____init__ pm_NoTable____init__ an_NoTable____init__ cd_NoTable____init__ ct_NoTable____init__), sl_NoTable____init__⟩)
    (cc_NoTable____init__ : PySem.W.codeIn K cd_NoTable____init__ "NoTable.__init__" = true)
    (kp_NoTable____init__ : PySem.W.keepIn K (.ref f_NoTable____init__) = true)
    (ty_NoTable____init__ : PySem.W.typeIn K (.ref f_NoTable____init__) = some (.type "function"))
    (fi_NoPair____init__ : PySem.W.findIn K (.ref c_NoPair) "__init__" = some (some (.ref f_NoPair____init__)))
    (l_NoPair____init__ : K.lookup f_NoPair____init__ = some ⟨oc_NoPair____init__, od_NoPair____init__, .func (PySem.W.fnOf "__init__" "NoPair.__init__" (defArgs s_NoPair____init__) (defBody s_NoPair____init__) (defScope s_NoPair____init__) .none kV_NoPair____init__ dc_NoPair____init__ pm_NoPair____init__ an_NoPair____init__ cd_NoPair____init__ ct_NoPair____init__), sl_NoPair____init__⟩)
    (cc_NoPair____init__ : PySem.W.codeIn K cd_NoPair____init__ "NoPair.__init__" = true)
    (kp_NoPair____init__ : PySem.W.keepIn K (.ref f_NoPair____init__) = true)
    (ty_NoPair____init__ : PySem.W.typeIn K (.ref f_NoPair____init__) = some (.type "function"))
    (pg_Plan : PySem.W.plainGet K c_Plan Str.empty = true)
    (hd_Plan : PySem.W.hasDictIn K c_Plan = true)
    (po_Plan : PySem.W.plainOver K c_Plan = true)
    (sa_Plan : PySem.W.findIn K (.ref c_Plan) "__setattr__" = some (some (.builtin "object.__setattr__")))
    (na_Plan_kind : PySem.W.findIn K (.ref c_Plan) "kind" = some none)
    (na_Plan_tables : PySem.W.findIn K (.ref c_Plan) "tables" = some none)
    (na_Plan_trios : PySem.W.findIn K (.ref c_Plan) "trios" = some none)
    (mk_Plan : PySem.W.makesIn K c_Plan = true)
    (ck_Plan : PySem.W.keepIn K (.ref c_Plan) = true)
    (xo_StandError : K.lookup c_StandError = some (excClassObj xn_StandError xq_StandError c_StandError xN_StandError xb_StandError bmV true xs_StandError xu_StandError xa_StandError xc_StandError xd_StandError x0_StandError x1_StandError x2_StandError x3_StandError x5_StandError "ValueError.__new__"))
    (xA_StandError : PySem.W.findIn K (.ref c_StandError) "__setattr__" = some (some (.builtin "object.__setattr__")))
    (xG_StandError : PySem.W.findIn K (.ref c_StandError) "__getattribute__" = some (some (.builtin "BaseException.__getattribute__")))
    (xH_StandError : PySem.W.findIn K (.ref c_StandError) "__getattr__" = some none)
    (xo_BadPlan : K.lookup c_BadPlan = some (excClassObj xn_BadPlan xq_BadPlan c_BadPlan xN_BadPlan xb_BadPlan (.ref c_StandError :: bmV) true xs_BadPlan xu_BadPlan xa_BadPlan xc_BadPlan xd_BadPlan x0_BadPlan x1_BadPlan x2_BadPlan x3_BadPlan x5_BadPlan "ValueError.__new__"))
    (xA_BadPlan : PySem.W.findIn K (.ref c_BadPlan) "__setattr__" = some (some (.builtin "object.__setattr__")))
    (xG_BadPlan : PySem.W.findIn K (.ref c_BadPlan) "__getattribute__" = some (some (.builtin "BaseException.__getattribute__")))
    (xH_BadPlan : PySem.W.findIn K (.ref c_BadPlan) "__getattr__" = some none)
    (xk_BadPlan : PySem.W.keepIn K (.ref c_BadPlan) = true)
    (xw_BadPlan : PySem.W.findIn K (.ref c_BadPlan) "word" = some none)
    (xi_BadPlan : PySem.W.clsIn K c_BadPlan = some cd_BadPlan)
    (xj_BadPlan : cd_BadPlan.mro.contains (.ref c_StandError) = true)
    (xo_NoRound : K.lookup c_NoRound = some (excClassObj xn_NoRound xq_NoRound c_NoRound xN_NoRound xb_NoRound (.ref c_StandError :: bmV) true xs_NoRound xu_NoRound xa_NoRound xc_NoRound xd_NoRound x0_NoRound x1_NoRound x2_NoRound x3_NoRound x5_NoRound "ValueError.__new__"))
    (xA_NoRound : PySem.W.findIn K (.ref c_NoRound) "__setattr__" = some (some (.builtin "object.__setattr__")))
    (xG_NoRound : PySem.W.findIn K (.ref c_NoRound) "__getattribute__" = some (some (.builtin "BaseException.__getattribute__")))
    (xH_NoRound : PySem.W.findIn K (.ref c_NoRound) "__getattr__" = some none)
    (xk_NoRound : PySem.W.keepIn K (.ref c_NoRound) = true)
    (xw_NoRound : PySem.W.findIn K (.ref c_NoRound) "word" = some none)
    (xi_NoRound : PySem.W.clsIn K c_NoRound = some cd_NoRound)
    (xj_NoRound : cd_NoRound.mro.contains (.ref c_StandError) = true)
    (xo_NoTable : K.lookup c_NoTable = some (excClassObj xn_NoTable xq_NoTable c_NoTable xN_NoTable xb_NoTable (.ref c_StandError :: bmV) true xs_NoTable xu_NoTable xa_NoTable xc_NoTable xd_NoTable x0_NoTable x1_NoTable x2_NoTable x3_NoTable x5_NoTable "ValueError.__new__"))
    (xA_NoTable : PySem.W.findIn K (.ref c_NoTable) "__setattr__" = some (some (.builtin "object.__setattr__")))
    (xG_NoTable : PySem.W.findIn K (.ref c_NoTable) "__getattribute__" = some (some (.builtin "BaseException.__getattribute__")))
    (xH_NoTable : PySem.W.findIn K (.ref c_NoTable) "__getattr__" = some none)
    (xk_NoTable : PySem.W.keepIn K (.ref c_NoTable) = true)
    (xw_NoTable : PySem.W.findIn K (.ref c_NoTable) "word" = some none)
    (xi_NoTable : PySem.W.clsIn K c_NoTable = some cd_NoTable)
    (xj_NoTable : cd_NoTable.mro.contains (.ref c_StandError) = true)
    (xo_NoPair : K.lookup c_NoPair = some (excClassObj xn_NoPair xq_NoPair c_NoPair xN_NoPair xb_NoPair (.ref c_StandError :: bmV) true xs_NoPair xu_NoPair xa_NoPair xc_NoPair xd_NoPair x0_NoPair x1_NoPair x2_NoPair x3_NoPair x5_NoPair "ValueError.__new__"))
    (xA_NoPair : PySem.W.findIn K (.ref c_NoPair) "__setattr__" = some (some (.builtin "object.__setattr__")))
    (xG_NoPair : PySem.W.findIn K (.ref c_NoPair) "__getattribute__" = some (some (.builtin "BaseException.__getattribute__")))
    (xH_NoPair : PySem.W.findIn K (.ref c_NoPair) "__getattr__" = some none)
    (xk_NoPair : PySem.W.keepIn K (.ref c_NoPair) = true)
    (xw_NoPair : PySem.W.findIn K (.ref c_NoPair) "word" = some none)
    (xi_NoPair : PySem.W.clsIn K c_NoPair = some cd_NoPair)
    (xj_NoPair : cd_NoPair.mro.contains (.ref c_StandError) = true)
    (ci1 : PySem.W.specialIn K (.ref c_StandError) "__getattribute__" = some (some (.builtin "type.__getattribute__")))
    (ci2 : PySem.W.readsIn K c_StandError (.type "type") = true)
    (ci3 : PySem.W.findCls K (.ref c_StandError) (.type "type") "__init__" = some (.val (.ref f_StandError____init__)))
    (ci4 : PySem.W.handedIn (.ref f_StandError____init__) = true)
    (a_TABLES_OF : PySem.W.nsIn K mainGlobals "TABLES_OF" = some (some (.ref g_TABLES_OF)))
    (tl_TABLES_OF : K.lookup g_TABLES_OF = some ⟨.type "dict", none, .dict (List.toArray [⟨ha0_TABLES_OF, .str (nm [115, 116, 114, 97, 105, 103, 104, 116]) tt0_TABLES_OF, .ref ta0_TABLES_OF⟩, ⟨ha1_TABLES_OF, .str (nm [115, 107, 105, 112]) tt1_TABLES_OF, .ref ta1_TABLES_OF⟩, ⟨ha2_TABLES_OF, .str (nm [115, 104, 97, 114, 101, 100]) tt2_TABLES_OF, .ref ta2_TABLES_OF⟩, ⟨ha3_TABLES_OF, .str (nm [114, 105, 110, 103]) tt3_TABLES_OF, .ref ta3_TABLES_OF⟩]) tn_TABLES_OF, #[]⟩)
    (te0_TABLES_OF : ha0_TABLES_OF = PyData.keyHash w.params (nm [115, 116, 114, 97, 105, 103, 104, 116]))
    (tk0_TABLES_OF : K.lookup ta0_TABLES_OF = some ⟨.type "tuple", tod0_TABLES_OF, .seq (List.toArray [.int 3 to0_0_TABLES_OF, .int 5 to0_1_TABLES_OF, .int 7 to0_2_TABLES_OF, .int 9 to0_3_TABLES_OF]) tz0_TABLES_OF, tsl0_TABLES_OF⟩)
    (te1_TABLES_OF : ha1_TABLES_OF = PyData.keyHash w.params (nm [115, 107, 105, 112]))
    (tk1_TABLES_OF : K.lookup ta1_TABLES_OF = some ⟨.type "tuple", tod1_TABLES_OF, .seq (List.toArray [.int 4 to1_0_TABLES_OF, .int 6 to1_1_TABLES_OF, .int 8 to1_2_TABLES_OF]) tz1_TABLES_OF, tsl1_TABLES_OF⟩)
    (te2_TABLES_OF : ha2_TABLES_OF = PyData.keyHash w.params (nm [115, 104, 97, 114, 101, 100]))
    (tk2_TABLES_OF : K.lookup ta2_TABLES_OF = some ⟨.type "tuple", tod2_TABLES_OF, .seq (List.toArray [.int 4 to2_0_TABLES_OF, .int 6 to2_1_TABLES_OF, .int 8 to2_2_TABLES_OF]) tz2_TABLES_OF, tsl2_TABLES_OF⟩)
    (te3_TABLES_OF : ha3_TABLES_OF = PyData.keyHash w.params (nm [114, 105, 110, 103]))
    (tk3_TABLES_OF : K.lookup ta3_TABLES_OF = some ⟨.type "tuple", tod3_TABLES_OF, .seq (List.toArray [.int 2 to3_0_TABLES_OF, .int 3 to3_1_TABLES_OF, .int 4 to3_2_TABLES_OF, .int 5 to3_3_TABLES_OF, .int 6 to3_4_TABLES_OF]) tz3_TABLES_OF, tsl3_TABLES_OF⟩)
    (ts_TABLES_OF : (g_TABLES_OF == sysModules) = false)
    (z_ValueError : PySem.W.nsIn K mainGlobals "ValueError" = some none)
    (z_abs : PySem.W.nsIn K mainGlobals "abs" = some none)
    (z_all : PySem.W.nsIn K mainGlobals "all" = some none)
    (z_bool : PySem.W.nsIn K mainGlobals "bool" = some none)
    (z_int : PySem.W.nsIn K mainGlobals "int" = some none)
    (z_isinstance : PySem.W.nsIn K mainGlobals "isinstance" = some none)
    (z_len : PySem.W.nsIn K mainGlobals "len" = some none)
    (z_list : PySem.W.nsIn K mainGlobals "list" = some none)
    (z_range : PySem.W.nsIn K mainGlobals "range" = some none)
    (z_str : PySem.W.nsIn K mainGlobals "str" = some none)
    (z_tuple : PySem.W.nsIn K mainGlobals "tuple" = some none)
    (hch : PySem.W.codeHdIn K code tbl = true) :
    ∃ fd : FuncData, (∀ (s : Shared) (v : Value), BindsTo s fd ⟨[v], []⟩ [("_law_script", v)]) ∧ ∀ base : Heap, K.In base → base.Ns mainGlobals mg → base.BuiltinsAt mg tbl → FnOk l.prog w K mg base (CXE l.prog w) 60 fa fd ["_law_script"] (spLawT K tbl) := by
  have e := hfa.symm.trans (PySem.W.mg_of X G a_law)
  cases e
  have F_trios_of := fun_mk (st := s_trios_of) l_trios_of cc_trios_of kp_trios_of
  have b_trios_of := F_trios_of.binds (ps := ["kind", "tables"]) fun _ _ _ _ _ _ us hl => match us, hl with | [_, _], _ => rfl
  have F__law_mixed := fun_mk (st := s__law_mixed) l__law_mixed cc__law_mixed kp__law_mixed
  have b__law_mixed := F__law_mixed.binds (ps := ["_law_seed", "_law_k"]) fun _ _ _ _ _ _ us hl => match us, hl with | [_, _], _ => rfl
  have F__law_draw := fun_mk (st := s__law_draw) l__law_draw cc__law_draw kp__law_draw
  have b__law_draw := F__law_draw.binds (ps := ["_law_cell_here", "_law_limits"]) fun _ _ _ _ _ _ us hl => match us, hl with | [_, _], _ => rfl
  have F__law_cell := fun_mk (st := s__law_cell) l__law_cell cc__law_cell kp__law_cell
  have b__law_cell := F__law_cell.binds (ps := ["_law_script", "_law_k"]) fun _ _ _ _ _ _ us hl => match us, hl with | [_, _], _ => rfl
  have F__law_num := fun_mk (st := s__law_num) l__law_num cc__law_num kp__law_num
  have b__law_num := F__law_num.binds (ps := ["_law_found"]) fun _ _ _ _ _ _ us hl => match us, hl with | [_], _ => rfl
  have F__law_same := fun_mk (st := s__law_same) l__law_same cc__law_same kp__law_same
  have b__law_same := F__law_same.binds (ps := ["_law_found", "_law_due"]) fun _ _ _ _ _ _ us hl => match us, hl with | [_, _], _ => rfl
  have F__law_told := fun_mk (st := s__law_told) l__law_told cc__law_told kp__law_told
  have b__law_told := F__law_told.binds (ps := ["_law_asked"]) fun _ _ _ _ _ _ us hl => match us, hl with | [_], _ => rfl
  have F__law_rows := fun_mk (st := s__law_rows) l__law_rows cc__law_rows kp__law_rows
  have b__law_rows := F__law_rows.binds (ps := ["_law_kind", "_law_t"]) fun _ _ _ _ _ _ us hl => match us, hl with | [_, _], _ => rfl
  have F__law_far_of := fun_mk (st := s__law_far_of) l__law_far_of cc__law_far_of kp__law_far_of
  have b__law_far_of := F__law_far_of.binds (ps := ["_law_number", "_law_most"]) fun _ _ _ _ _ _ us hl => match us, hl with | [_, _], _ => rfl
  have F_law := fun_mk (st := s_law) l_law cc_law kp_law
  have b_law := F_law.binds (ps := ["_law_script"]) fun _ _ _ _ _ _ us hl => match us, hl with | [_], _ => rfl
  have F_Plan____init__ := fun_mk (st := s_Plan____init__) l_Plan____init__ cc_Plan____init__ kp_Plan____init__
  have b_Plan____init__ := F_Plan____init__.binds (ps := ["self", "kind", "tables"]) fun _ _ _ _ _ _ us hl => match us, hl with | [_, _, _], _ => rfl
  have F_Plan__rounds := fun_mk (st := s_Plan__rounds) l_Plan__rounds cc_Plan__rounds kp_Plan__rounds
  have b_Plan__rounds := F_Plan__rounds.binds (ps := ["self"]) fun _ _ _ _ _ _ us hl => match us, hl with | [_], _ => rfl
  have F_Plan__sets := fun_mk (st := s_Plan__sets) l_Plan__sets cc_Plan__sets kp_Plan__sets
  have b_Plan__sets := F_Plan__sets.binds (ps := ["self"]) fun _ _ _ _ _ _ us hl => match us, hl with | [_], _ => rfl
  have F_Plan__pairs := fun_mk (st := s_Plan__pairs) l_Plan__pairs cc_Plan__pairs kp_Plan__pairs
  have b_Plan__pairs := F_Plan__pairs.binds (ps := ["self"]) fun _ _ _ _ _ _ us hl => match us, hl with | [_], _ => rfl
  have F_Plan__need_round := fun_mk (st := s_Plan__need_round) l_Plan__need_round cc_Plan__need_round kp_Plan__need_round
  have b_Plan__need_round := F_Plan__need_round.binds (ps := ["self", "at"]) fun _ _ _ _ _ _ us hl => match us, hl with | [_, _], _ => rfl
  have F_Plan__need_table := fun_mk (st := s_Plan__need_table) l_Plan__need_table cc_Plan__need_table kp_Plan__need_table
  have b_Plan__need_table := F_Plan__need_table.binds (ps := ["self", "table"]) fun _ _ _ _ _ _ us hl => match us, hl with | [_, _], _ => rfl
  have F_Plan__need_pair := fun_mk (st := s_Plan__need_pair) l_Plan__need_pair cc_Plan__need_pair kp_Plan__need_pair
  have b_Plan__need_pair := F_Plan__need_pair.binds (ps := ["self", "pair"]) fun _ _ _ _ _ _ us hl => match us, hl with | [_, _], _ => rfl
  have F_Plan__field := fun_mk (st := s_Plan__field) l_Plan__field cc_Plan__field kp_Plan__field
  have b_Plan__field := F_Plan__field.binds (ps := ["self", "pair"]) fun _ _ _ _ _ _ us hl => match us, hl with | [_, _], _ => rfl
  have F_Plan__seat := fun_mk (st := s_Plan__seat) l_Plan__seat cc_Plan__seat kp_Plan__seat
  have b_Plan__seat := F_Plan__seat.binds (ps := ["self", "at", "table"]) fun _ _ _ _ _ _ us hl => match us, hl with | [_, _, _], _ => rfl
  have F_Plan__two_field_seat := fun_mk (st := s_Plan__two_field_seat) l_Plan__two_field_seat cc_Plan__two_field_seat kp_Plan__two_field_seat
  have b_Plan__two_field_seat := F_Plan__two_field_seat.binds (ps := ["self", "at", "table"]) fun _ _ _ _ _ _ us hl => match us, hl with | [_, _, _], _ => rfl
  have F_StandError____init__ := fun_mk (st := s_StandError____init__) l_StandError____init__ cc_StandError____init__ kp_StandError____init__
  have b_StandError____init__ := F_StandError____init__.binds (ps := ["self", "word"]) fun _ _ _ _ _ _ us hl => match us, hl with | [_, _], _ => rfl
  have F_BadPlan____init__ := fun_mk (st := s_BadPlan____init__) l_BadPlan____init__ cc_BadPlan____init__ kp_BadPlan____init__
  have b_BadPlan____init__ := F_BadPlan____init__.binds (ps := ["self"]) fun _ _ _ _ _ _ us hl => match us, hl with | [_], _ => rfl
  have F_NoRound____init__ := fun_mk (st := s_NoRound____init__) l_NoRound____init__ cc_NoRound____init__ kp_NoRound____init__
  have b_NoRound____init__ := F_NoRound____init__.binds (ps := ["self"]) fun _ _ _ _ _ _ us hl => match us, hl with | [_], _ => rfl
  have F_NoTable____init__ := fun_mk (st := s_NoTable____init__) l_NoTable____init__ cc_NoTable____init__ kp_NoTable____init__
  have b_NoTable____init__ := F_NoTable____init__.binds (ps := ["self"]) fun _ _ _ _ _ _ us hl => match us, hl with | [_], _ => rfl
  have F_NoPair____init__ := fun_mk (st := s_NoPair____init__) l_NoPair____init__ cc_NoPair____init__ kp_NoPair____init__
  have b_NoPair____init__ := F_NoPair____init__.binds (ps := ["self"]) fun _ _ _ _ _ _ us hl => match us, hl with | [_], _ => rfl
  have X_StandError : XCls K c_StandError := ⟨⟨xn_StandError, xq_StandError, xN_StandError, xb_StandError, [], xs_StandError, xu_StandError, xa_StandError, xc_StandError, xd_StandError, x0_StandError, x1_StandError, x2_StandError, x3_StandError, x5_StandError, xo_StandError⟩, xA_StandError, xG_StandError, xH_StandError⟩
  have X_BadPlan : XCls K c_BadPlan := ⟨⟨xn_BadPlan, xq_BadPlan, xN_BadPlan, xb_BadPlan, [c_StandError], xs_BadPlan, xu_BadPlan, xa_BadPlan, xc_BadPlan, xd_BadPlan, x0_BadPlan, x1_BadPlan, x2_BadPlan, x3_BadPlan, x5_BadPlan, xo_BadPlan⟩, xA_BadPlan, xG_BadPlan, xH_BadPlan⟩
  have X_NoRound : XCls K c_NoRound := ⟨⟨xn_NoRound, xq_NoRound, xN_NoRound, xb_NoRound, [c_StandError], xs_NoRound, xu_NoRound, xa_NoRound, xc_NoRound, xd_NoRound, x0_NoRound, x1_NoRound, x2_NoRound, x3_NoRound, x5_NoRound, xo_NoRound⟩, xA_NoRound, xG_NoRound, xH_NoRound⟩
  have X_NoTable : XCls K c_NoTable := ⟨⟨xn_NoTable, xq_NoTable, xN_NoTable, xb_NoTable, [c_StandError], xs_NoTable, xu_NoTable, xa_NoTable, xc_NoTable, xd_NoTable, x0_NoTable, x1_NoTable, x2_NoTable, x3_NoTable, x5_NoTable, xo_NoTable⟩, xA_NoTable, xG_NoTable, xH_NoTable⟩
  have X_NoPair : XCls K c_NoPair := ⟨⟨xn_NoPair, xq_NoPair, xN_NoPair, xb_NoPair, [c_StandError], xs_NoPair, xu_NoPair, xa_NoPair, xc_NoPair, xd_NoPair, x0_NoPair, x1_NoPair, x2_NoPair, x3_NoPair, x5_NoPair, xo_NoPair⟩, xA_NoPair, xG_NoPair, xH_NoPair⟩
  have tk0_TABLES_OF' : KTup K ta0_TABLES_OF [3, 5, 7, 9] := fun H => .inr ⟨_, _, _, tk0_TABLES_OF, rfl, rfl, (show 4 ≤ sizeLine by decide), .cons ⟨_, rfl⟩ (.cons ⟨_, rfl⟩ (.cons ⟨_, rfl⟩ (.cons ⟨_, rfl⟩ (.nil))))⟩
  have tk1_TABLES_OF' : KTup K ta1_TABLES_OF [4, 6, 8] := fun H => .inr ⟨_, _, _, tk1_TABLES_OF, rfl, rfl, (show 3 ≤ sizeLine by decide), .cons ⟨_, rfl⟩ (.cons ⟨_, rfl⟩ (.cons ⟨_, rfl⟩ (.nil)))⟩
  have tk2_TABLES_OF' : KTup K ta2_TABLES_OF [4, 6, 8] := fun H => .inr ⟨_, _, _, tk2_TABLES_OF, rfl, rfl, (show 3 ≤ sizeLine by decide), .cons ⟨_, rfl⟩ (.cons ⟨_, rfl⟩ (.cons ⟨_, rfl⟩ (.nil)))⟩
  have tk3_TABLES_OF' : KTup K ta3_TABLES_OF [2, 3, 4, 5, 6] := fun H => .inr ⟨_, _, _, tk3_TABLES_OF, rfl, rfl, (show 5 ≤ sizeLine by decide), .cons ⟨_, rfl⟩ (.cons ⟨_, rfl⟩ (.cons ⟨_, rfl⟩ (.cons ⟨_, rfl⟩ (.cons ⟨_, rfl⟩ (.nil)))))⟩
  have tab_TABLES_OF : TabK K w g_TABLES_OF tb_TABLES_OF := ⟨⟨_, tn_TABLES_OF, tl_TABLES_OF, ⟨⟨_, _, rfl, te0_TABLES_OF⟩, ⟨⟨_, _, rfl, te1_TABLES_OF⟩, ⟨⟨_, _, rfl, te2_TABLES_OF⟩, ⟨⟨_, _, rfl, te3_TABLES_OF⟩, trivial⟩⟩⟩⟩, .cons tk0_TABLES_OF' (.cons tk1_TABLES_OF' (.cons tk2_TABLES_OF' (.cons tk3_TABLES_OF' (.nil))))⟩, ts_TABLES_OF⟩
  have T : Txt w K mg ⟨f_trios_of, _, f__law_mixed, _, f__law_draw, _, f__law_cell, _, f__law_num, _, f__law_same, _, f__law_told, _, f__law_rows, _, f__law_far_of, _, fa, _, f_Plan____init__, _, f_Plan__rounds, _, f_Plan__sets, _, f_Plan__pairs, _, f_Plan__need_round, _, f_Plan__need_table, _, f_Plan__need_pair, _, f_Plan__field, _, f_Plan__seat, _, f_Plan__two_field_seat, _, f_StandError____init__, _, f_BadPlan____init__, _, f_NoRound____init__, _, f_NoTable____init__, _, f_NoPair____init__, _, c_StandError, c_BadPlan, c_NoRound, c_NoTable, c_NoPair, c_Plan, g_TABLES_OF, tbl, code⟩ := ⟨⟨F_trios_of, b_trios_of, PySem.W.mg_of X G a_trios_of⟩, ⟨F__law_mixed, b__law_mixed, PySem.W.mg_of X G a__law_mixed⟩, ⟨F__law_draw, b__law_draw, PySem.W.mg_of X G a__law_draw⟩, ⟨F__law_cell, b__law_cell, PySem.W.mg_of X G a__law_cell⟩, ⟨F__law_num, b__law_num, PySem.W.mg_of X G a__law_num⟩, ⟨F__law_same, b__law_same, PySem.W.mg_of X G a__law_same⟩, ⟨F__law_told, b__law_told, PySem.W.mg_of X G a__law_told⟩, ⟨F__law_rows, b__law_rows, PySem.W.mg_of X G a__law_rows⟩, ⟨F__law_far_of, b__law_far_of, PySem.W.mg_of X G a__law_far_of⟩, ⟨F_law, b_law, PySem.W.mg_of X G a_law⟩, F_Plan____init__, b_Plan____init__, F_Plan__rounds, b_Plan__rounds, ⟨fi_Plan__rounds, fn_Plan__rounds, kp_Plan__rounds⟩, F_Plan__sets, b_Plan__sets, ⟨fi_Plan__sets, fn_Plan__sets, kp_Plan__sets⟩, F_Plan__pairs, b_Plan__pairs, ⟨fi_Plan__pairs, fn_Plan__pairs, kp_Plan__pairs⟩, F_Plan__need_round, b_Plan__need_round, ⟨fi_Plan__need_round, fn_Plan__need_round, kp_Plan__need_round⟩, F_Plan__need_table, b_Plan__need_table, ⟨fi_Plan__need_table, fn_Plan__need_table, kp_Plan__need_table⟩, F_Plan__need_pair, b_Plan__need_pair, ⟨fi_Plan__need_pair, fn_Plan__need_pair, kp_Plan__need_pair⟩, F_Plan__field, b_Plan__field, ⟨fi_Plan__field, fn_Plan__field, kp_Plan__field⟩, F_Plan__seat, b_Plan__seat, ⟨fi_Plan__seat, fn_Plan__seat, kp_Plan__seat⟩, F_Plan__two_field_seat, b_Plan__two_field_seat, ⟨fi_Plan__two_field_seat, fn_Plan__two_field_seat, kp_Plan__two_field_seat⟩, F_StandError____init__, b_StandError____init__, F_BadPlan____init__, b_BadPlan____init__, F_NoRound____init__, b_NoRound____init__, F_NoTable____init__, b_NoTable____init__, F_NoPair____init__, b_NoPair____init__, ⟨pg_Plan, hd_Plan, po_Plan, sa_Plan⟩, na_Plan_kind, na_Plan_tables, na_Plan_trios, ⟨mk_Plan, fi_Plan____init__, fn_Plan____init__, ck_Plan⟩, PySem.W.mg_of X G a_Plan, ⟨X_BadPlan, fi_BadPlan____init__, ty_BadPlan____init__, xk_BadPlan⟩, ⟨cd_BadPlan, xi_BadPlan, xj_BadPlan⟩, xw_BadPlan, PySem.W.mg_of X G a_BadPlan, ⟨X_NoRound, fi_NoRound____init__, ty_NoRound____init__, xk_NoRound⟩, ⟨cd_NoRound, xi_NoRound, xj_NoRound⟩, xw_NoRound, PySem.W.mg_of X G a_NoRound, ⟨X_NoTable, fi_NoTable____init__, ty_NoTable____init__, xk_NoTable⟩, ⟨cd_NoTable, xi_NoTable, xj_NoTable⟩, xw_NoTable, PySem.W.mg_of X G a_NoTable, ⟨X_NoPair, fi_NoPair____init__, ty_NoPair____init__, xk_NoPair⟩, ⟨cd_NoPair, xi_NoPair, xj_NoPair⟩, xw_NoPair, PySem.W.mg_of X G a_NoPair, X_StandError, ⟨ci1, ci2, ci3, ci4, kp_StandError____init__⟩, PySem.W.mg_of X G a_StandError, tab_TABLES_OF, PySem.W.mg_of X G a_TABLES_OF, PySem.W.mg_none_of X G z_ValueError, PySem.W.mg_none_of X G z_abs, PySem.W.mg_none_of X G z_all, PySem.W.mg_none_of X G z_bool, PySem.W.mg_none_of X G z_int, PySem.W.mg_none_of X G z_isinstance, PySem.W.mg_none_of X G z_len, PySem.W.mg_none_of X G z_list, PySem.W.mg_none_of X G z_range, PySem.W.mg_none_of X G z_str, PySem.W.mg_none_of X G z_tuple⟩
  exact ⟨PySem.W.fnOf "law" "law" (defArgs s_law) (defBody s_law) (defScope s_law) .none kV_law dc_law pm_law an_law (.ref code) ct_law, fun s v => .of_eq rfl, fun base KB _ bm => ok_law T l_law cc_law hch KB bm⟩
theorem walk {l : PySem.W.OpenLaw} {q : Program} {loose : List Str} {XP : (Str → Option Value) → Heap → Prop} {YP : World → Heap → Prop} {d : DefRec} {K : Params → PySem.W.Frag} {tbl c : Addr} (hn : l.most = some 63) (hdf : d.params.defaults = [])
    (hY : ∀ (w : World) (h : Heap), YP w h → (K w.params).In h ∧ h.get? tbl = some (PySem.W.tabObj #[])) (hK : ∀ P : Params, (K P).lookup tbl = none ∧ PySem.W.codeHdIn (K P) c tbl = true)
    (F : ∀ (w : World) (mg : Str → Option Value) (fa : Addr) (h : Heap), (K w.params).In h → h.Ns mainGlobals mg → mg d.name = some (.ref fa) →
      ∃ fd : FuncData, (∀ (s : Shared) (u : Value), BindsTo s fd ⟨[u], []⟩ [("_law_script", u)]) ∧ ∀ base : Heap, (K w.params).In base → base.Ns mainGlobals mg → base.BuiltinsAt mg tbl → FnOk l.prog w (K w.params) mg base (CXE l.prog w) 60 fa fd ["_law_script"] (spLawT (K w.params) tbl)) :
    PySem.W.WalkO q loose XP YP l.row.toRowW d [] (fun f vs => PySem.call f vs) :=
  walkT (n := 63) (k := 60) (x := "_law_script") (CX := fun w => CXE l.prog w) (sp := fun w => spLawT (K w.params) tbl) hn (by decide) hdf ⟨rfl, by decide, by decide⟩ hY hK F (fun _ _ a ns hl hO hS => ⟨a, ns, rfl, hO, hS, hl, fun _ => rfl⟩) fun _ _ _ _ _ z => cxe_none z

end My

def PySem.W.Fast.tw12447172348462806112 : Nat := 0
def PySem.W.Fast.tw4420957534777088160 : Nat := 0
def PySem.W.Fast.tw11465245508809857504 : Nat := 0
def PySem.W.Fast.tw1231192049222839840 : Nat := 0
def PySem.W.Fast.tw16634067173175519072 : Nat := 0
def PySem.W.Fast.tw11870419935685654464 : Nat := 0
def PySem.W.Fast.tw3148159399932459041 : Nat := 0
def PySem.W.Fast.tw15297899101295434881 : Nat := 0
def PySem.W.Fast.tw3441657505074540769 : Nat := 0
def PySem.W.Fast.tw328664002264842561 : Nat := 0
def PySem.W.Fast.tw16963480821486897569 : Nat := 0
def PySem.W.Fast.tw14137484140108467713 : Nat := 0
def PySem.W.Fast.tw1399396278795070241 : Nat := 0
def PySem.W.Fast.tw1160115669470920545 : Nat := 0
def PySem.W.Fast.tw2967352175858172801 : Nat := 0
def PySem.W.Fast.tw684482422202550145 : Nat := 0
def PySem.W.Fast.tw11759229915683723169 : Nat := 0
def PySem.W.Fast.tw9774972059159420833 : Nat := 0
def PySem.W.Fast.tw10202683560467176642 : Nat := 0
def PySem.W.Fast.tw6996034795470391586 : Nat := 0
def PySem.W.Fast.tw938240342825050466 : Nat := 0
def PySem.W.Fast.tw14391694251091491202 : Nat := 0
def PySem.W.Fast.tw2939184910189027874 : Nat := 0
def PySem.W.Fast.tw10069548086512052802 : Nat := 0
def PySem.W.Fast.tw14767691934272715362 : Nat := 0
def PySem.W.Fast.tw3772057204240812706 : Nat := 0
def PySem.W.Fast.tw7016432517100642050 : Nat := 0
def PySem.W.Fast.tw14433253542980417378 : Nat := 0
def PySem.W.Fast.tw13926080955834435458 : Nat := 0
def PySem.W.Fast.tw4820667965803996291 : Nat := 0
def PySem.W.Fast.tw9956870017269079203 : Nat := 0
def PySem.W.Fast.tw18280587828987154819 : Nat := 0
def PySem.W.Fast.tw5964567728195433891 : Nat := 0
def PySem.W.Fast.tw14711293725341475331 : Nat := 0
def PySem.W.Fast.tw14660514313360742147 : Nat := 0
def PySem.W.Fast.tw10161157106705907619 : Nat := 0
def PySem.W.Fast.tw11411449756700631076 : Nat := 0
def PySem.W.Fast.tw2867397154066565220 : Nat := 0
def PySem.W.Fast.tw10343246523718311140 : Nat := 0
def PySem.W.Fast.tw15749979277321623780 : Nat := 0
def PySem.W.Fast.tw17340337883070603524 : Nat := 0
def PySem.W.Fast.tw17373785111799298308 : Nat := 0
def PySem.W.Fast.tw5195242736031757636 : Nat := 0
def PySem.W.Fast.tw15276173147472009604 : Nat := 0
def PySem.W.Fast.tw7657177247549795716 : Nat := 0
def PySem.W.Fast.tw9304917774584196484 : Nat := 0
def PySem.W.Fast.tw2632337237629268388 : Nat := 0
def PySem.W.Fast.tw243487108281284036 : Nat := 0
def PySem.W.Fast.tw4901931466598768132 : Nat := 0
def PySem.W.Fast.tw10494719897116598788 : Nat := 0
def PySem.W.Fast.tw1847818292614101540 : Nat := 0
def PySem.W.Fast.tw552718187865207332 : Nat := 0
def PySem.W.Fast.tw13112086941301311012 : Nat := 0
def PySem.W.Fast.tw15782238720095516420 : Nat := 0
def PySem.W.Fast.tw16625653682562165540 : Nat := 0
def PySem.W.Fast.tw16755211119424504676 : Nat := 0
def PySem.W.Fast.tw17731377930718405476 : Nat := 0
def PySem.W.Fast.tw9125107841803592580 : Nat := 0
def PySem.W.Fast.tw7737961551472690213 : Nat := 0
def PySem.W.Fast.tw1271826828589322437 : Nat := 0
def PySem.W.Fast.tw10930788298285315269 : Nat := 0
def PySem.W.Fast.tw7354043231814140133 : Nat := 0
def PySem.W.Fast.tw3280492609155735781 : Nat := 0
def PySem.W.Fast.tw4936783026591964453 : Nat := 0
def PySem.W.Fast.tw15983937525306690885 : Nat := 0
def PySem.W.Fast.tw315850465155385701 : Nat := 0
def PySem.W.Fast.tw16742040475484921221 : Nat := 0
def PySem.W.Fast.tw1928652702440413637 : Nat := 0
def PySem.W.Fast.tw4028965049123423717 : Nat := 0
def PySem.W.Fast.tw6729560915960010213 : Nat := 0
def PySem.W.Fast.tw3356788638973963813 : Nat := 0
def PySem.W.Fast.tw648511582525520421 : Nat := 0
def PySem.W.Fast.tw8847840430619521637 : Nat := 0
def PySem.W.Fast.tw17223824561861660389 : Nat := 0
def PySem.W.Fast.tw13244837913071326949 : Nat := 0
def PySem.W.Fast.tw13137532256051535685 : Nat := 0
def PySem.W.Fast.tw6695584067263432645 : Nat := 0
def PySem.W.Fast.tw11222637253300426725 : Nat := 0
def PySem.W.Fast.tw15895157563339117606 : Nat := 0
def PySem.W.Fast.tw14594594326243509350 : Nat := 0
def PySem.W.Fast.tw12877818951530447046 : Nat := 0
def PySem.W.Fast.tw12555329331403801894 : Nat := 0
def PySem.W.Fast.tw14718563556132049190 : Nat := 0
def PySem.W.Fast.tw3203475474957417830 : Nat := 0
def PySem.W.Fast.tw804214548315335014 : Nat := 0
def PySem.W.Fast.tw17136627834064117126 : Nat := 0
def PySem.W.Fast.tw6330436613430896070 : Nat := 0
def PySem.W.Fast.tw4686015054333558278 : Nat := 0
def PySem.W.Fast.tw8976895819008672326 : Nat := 0
def PySem.W.Fast.tw4042898484185068102 : Nat := 0
def PySem.W.Fast.tw4924214793714658022 : Nat := 0
def PySem.W.Fast.tw3659541293558506278 : Nat := 0
def PySem.W.Fast.tw8040342584911535942 : Nat := 0
def PySem.W.Fast.tw15917940448597358566 : Nat := 0
def PySem.W.Fast.tw8885168109025367079 : Nat := 0
def PySem.W.Fast.tw1465569773713914951 : Nat := 0
def PySem.W.Fast.tw14375171561100157159 : Nat := 0
def PySem.W.Fast.tw1975360173786464551 : Nat := 0
def PySem.W.Fast.tw14778879006938385703 : Nat := 0
def PySem.W.Fast.tw10429389063105267047 : Nat := 0
def PySem.W.Fast.tw7501246068220700039 : Nat := 0
def PySem.W.Fast.tw12971229946744288647 : Nat := 0
def PySem.W.Fast.tw18300474733394952647 : Nat := 0
def PySem.W.Fast.tw16348039179323839943 : Nat := 0
def PySem.W.Fast.tw8842158905076325991 : Nat := 0
def PySem.W.Fast.tw13460906080714600712 : Nat := 0
def PySem.W.Fast.tw8821285042029027592 : Nat := 0
def PySem.W.Fast.tw4865887432149706024 : Nat := 0
def PySem.W.Fast.tw13977315813699592520 : Nat := 0
def PySem.W.Fast.tw12908174915193174344 : Nat := 0
def PySem.W.Fast.tw9791781949223843464 : Nat := 0
def PySem.W.Fast.tw2336481620350424712 : Nat := 0
def PySem.W.Fast.tw11770856816136319688 : Nat := 0
def PySem.W.Fast.tw15185680105232894696 : Nat := 0
def PySem.W.Fast.tw11467477100952084328 : Nat := 0
def PySem.W.Fast.tw6049380530869600265 : Nat := 0
def PySem.W.Fast.tw18393615740552418569 : Nat := 0
def PySem.W.Fast.tw6517388681319029001 : Nat := 0
def PySem.W.Fast.tw15974206688065484137 : Nat := 0
def PySem.W.Fast.tw9795364787337818569 : Nat := 0
def PySem.W.Fast.tw4066786467283450441 : Nat := 0
def PySem.W.Fast.tw3522941669220369065 : Nat := 0
def PySem.W.Fast.tw1818914675884394185 : Nat := 0
def PySem.W.Fast.tw8245957476809706185 : Nat := 0
def PySem.W.Fast.tw5246812109696685769 : Nat := 0
def PySem.W.Fast.tw14563470258342551273 : Nat := 0
def PySem.W.Fast.tw4159051397828312873 : Nat := 0
def PySem.W.Fast.tw10164923505384641353 : Nat := 0
def PySem.W.Fast.tw13497862815622138793 : Nat := 0
def PySem.W.Fast.tw15214059193669960746 : Nat := 0
def PySem.W.Fast.tw16999657850414414922 : Nat := 0
def PySem.W.Fast.tw17159576626819969162 : Nat := 0
def PySem.W.Fast.tw6982098266550647946 : Nat := 0
def PySem.W.Fast.tw10295753843338760394 : Nat := 0
def PySem.W.Fast.tw479464648166204874 : Nat := 0
def PySem.W.Fast.tw15193100384777679434 : Nat := 0
def PySem.W.Fast.tw988950797937121994 : Nat := 0
def PySem.W.Fast.tw11898950227842235178 : Nat := 0
def PySem.W.Fast.tw8047593231655888682 : Nat := 0
def PySem.W.Fast.tw11170192831747743562 : Nat := 0
def PySem.W.Fast.tw9899287029976056714 : Nat := 0
def PySem.W.Fast.tw16868879599193096074 : Nat := 0
def PySem.W.Fast.tw16477955490969292746 : Nat := 0
def PySem.W.Fast.tw2516117958850541579 : Nat := 0
def PySem.W.Fast.tw3650179442783579147 : Nat := 0
def PySem.W.Fast.tw11127197856674813227 : Nat := 0
def PySem.W.Fast.tw5118160158859989387 : Nat := 0
def PySem.W.Fast.tw13615856041105093067 : Nat := 0
def PySem.W.Fast.tw4628248707611019787 : Nat := 0
def PySem.W.Fast.tw4949248911982770731 : Nat := 0
def PySem.W.Fast.tw4568152385013002891 : Nat := 0
def PySem.W.Fast.tw9597616558425986699 : Nat := 0
def PySem.W.Fast.tw5782587442651597611 : Nat := 0
def PySem.W.Fast.tw660128064884097931 : Nat := 0
def PySem.W.Fast.tw8274926427405535372 : Nat := 0
def PySem.W.Fast.tw5036912637853796556 : Nat := 0
def PySem.W.Fast.tw9284278924219217228 : Nat := 0
def PySem.W.Fast.tw15024549452636424620 : Nat := 0
def PySem.W.Fast.tw14240382649216424396 : Nat := 0
def PySem.W.Fast.tw16360908921231611372 : Nat := 0
def PySem.W.Fast.tw9110557757019716140 : Nat := 0
def PySem.W.Fast.tw11516877668129478220 : Nat := 0
def PySem.W.Fast.tw7218348249728797292 : Nat := 0
def PySem.W.Fast.tw10673713937729578636 : Nat := 0
def PySem.W.Fast.tw14383553086092362508 : Nat := 0
def PySem.W.Fast.tw9416852539452361516 : Nat := 0
def PySem.W.Fast.tw14787458090350987052 : Nat := 0
def PySem.W.Fast.tw12157058427108793324 : Nat := 0
def PySem.W.Fast.tw16988825909765934060 : Nat := 0
def PySem.W.Fast.tw11693554449938762797 : Nat := 0
def PySem.W.Fast.tw10455424994117491789 : Nat := 0
def PySem.W.Fast.tw12557739454051537165 : Nat := 0
def PySem.W.Fast.tw8131103750395742509 : Nat := 0
def PySem.W.Fast.tw9139631326411167181 : Nat := 0
def PySem.W.Fast.tw18232538384339335661 : Nat := 0
def PySem.W.Fast.tw2726329812209827373 : Nat := 0
def PySem.W.Fast.tw601536027330905741 : Nat := 0
def PySem.W.Fast.tw8964453794735071917 : Nat := 0
def PySem.W.Fast.tw10750746446816637645 : Nat := 0
def PySem.W.Fast.tw12801311749402995501 : Nat := 0
def PySem.W.Fast.tw11552063954390714221 : Nat := 0
def PySem.W.Fast.tw9805619834895999917 : Nat := 0
def PySem.W.Fast.tw17871566627032781773 : Nat := 0
def PySem.W.Fast.tw9865101058319465486 : Nat := 0
def PySem.W.Fast.tw363900347325275182 : Nat := 0
def PySem.W.Fast.tw2656837565838251086 : Nat := 0
def PySem.W.Fast.tw15906283233145869582 : Nat := 0
def PySem.W.Fast.tw5486852660252995950 : Nat := 0
def PySem.W.Fast.tw334141091169015214 : Nat := 0
def PySem.W.Fast.tw2720737190518039022 : Nat := 0
def PySem.W.Fast.tw2419362680835640110 : Nat := 0
def PySem.W.Fast.tw18179394833264151374 : Nat := 0
def PySem.W.Fast.tw12902870860958085006 : Nat := 0
def PySem.W.Fast.tw13940542066658164751 : Nat := 0
def PySem.W.Fast.tw6694268425927247887 : Nat := 0
def PySem.W.Fast.tw4126604012289954927 : Nat := 0
def PySem.W.Fast.tw6013948582637090991 : Nat := 0
def PySem.W.Fast.tw9163135600042754223 : Nat := 0
def PySem.W.Fast.tw8614235160220872975 : Nat := 0
def PySem.W.Fast.tw11920466954041447727 : Nat := 0
def PySem.W.Fast.tw6656477545012897167 : Nat := 0
def PySem.W.Fast.tw12398470078980680239 : Nat := 0
def PySem.W.Fast.tw15980915529247100495 : Nat := 0
def PySem.W.Fast.tw60018542607311471 : Nat := 0
def PySem.W.Fast.tw16907210903214382799 : Nat := 0
def PySem.W.Fast.tw588798434831671055 : Nat := 0
def PySem.W.Fast.tw15466076900242003759 : Nat := 0
def PySem.W.Fast.tw10734926904423306127 : Nat := 0
def PySem.W.Fast.tw13927740241782005743 : Nat := 0
def PySem.W.Fast.tw10360154436307116048 : Nat := 0
def PySem.W.Fast.tw1358483398648710224 : Nat := 0
def PySem.W.Fast.tw16220528334280149232 : Nat := 0
def PySem.W.Fast.tw11748114764136932592 : Nat := 0
def PySem.W.Fast.tw12328144001664354640 : Nat := 0
def PySem.W.Fast.tw4630336836330862960 : Nat := 0
def PySem.W.Fast.tw10483783050938603888 : Nat := 0
def PySem.W.Fast.tw13670506102730423760 : Nat := 0
def PySem.W.Fast.tw4012687883557184016 : Nat := 0
def PySem.W.Fast.tw15190120713737459216 : Nat := 0
def PySem.W.Fast.tw6703223584224910000 : Nat := 0
def PySem.W.Fast.tw4364839959422768944 : Nat := 0
def PySem.W.Fast.tw3579004214568118128 : Nat := 0
def PySem.W.Fast.tw14913838014369166192 : Nat := 0
def PySem.W.Fast.tw11688188405070857136 : Nat := 0
def PySem.W.Fast.tw17434003560077681713 : Nat := 0
def PySem.W.Fast.tw6049737175388546161 : Nat := 0
def PySem.W.Fast.tw231158008568960209 : Nat := 0
def PySem.W.Fast.tw7825729508923500817 : Nat := 0
def PySem.W.Fast.tw4341361278230067505 : Nat := 0
def PySem.W.Fast.tw12754115204270933457 : Nat := 0
def PySem.W.Fast.tw14445155710678016625 : Nat := 0
def PySem.W.Fast.tw179300180097628017 : Nat := 0
def PySem.W.Fast.tw14382902402228241458 : Nat := 0
def PySem.W.Fast.tw7226405688027693298 : Nat := 0
def PySem.W.Fast.tw7084738577487170834 : Nat := 0
def PySem.W.Fast.tw11119644373611488690 : Nat := 0
def PySem.W.Fast.tw3618468049221445170 : Nat := 0
def PySem.W.Fast.tw4207285217973822034 : Nat := 0
def PySem.W.Fast.tw6285045341892502162 : Nat := 0
def PySem.W.Fast.tw17998355354389508850 : Nat := 0
def PySem.W.Fast.tw8784428968735262450 : Nat := 0
def PySem.W.Fast.tw2125902268754931474 : Nat := 0
def PySem.W.Fast.tw16184919378375881586 : Nat := 0
def PySem.W.Fast.tw11170938294027850674 : Nat := 0
def PySem.W.Fast.tw16153977895582433331 : Nat := 0
def PySem.W.Fast.tw11380397579941608499 : Nat := 0
def PySem.W.Fast.tw11970653064611943507 : Nat := 0
def PySem.W.Fast.tw17224966492603062547 : Nat := 0
def PySem.W.Fast.tw16175922854863434003 : Nat := 0
def PySem.W.Fast.tw11266772311871545651 : Nat := 0
def PySem.W.Fast.tw748817236908432723 : Nat := 0
def PySem.W.Fast.tw250176208001404243 : Nat := 0
def PySem.W.Fast.tw17844573285245056371 : Nat := 0
def PySem.W.Fast.tw6924693046351325555 : Nat := 0
def PySem.W.Fast.tw7183209959129621939 : Nat := 0
def PySem.W.Fast.tw18384988999454364147 : Nat := 0
def PySem.W.Fast.tw14700407004765683 : Nat := 0
def PySem.W.Fast.tw12534676452552974867 : Nat := 0
def PySem.W.Fast.tw5826980436287113939 : Nat := 0
def PySem.W.Fast.tw3589575036806614771 : Nat := 0
def PySem.W.Fast.tw17070940961842784115 : Nat := 0
def PySem.W.Fast.tw14583320855883152628 : Nat := 0
def PySem.W.Fast.tw8737987750961630484 : Nat := 0
def PySem.W.Fast.tw10007290122905922996 : Nat := 0
def PySem.W.Fast.tw14716020498455912948 : Nat := 0
def PySem.W.Fast.tw10531471991660899860 : Nat := 0
def PySem.W.Fast.tw17188040221482316532 : Nat := 0
def PySem.W.Fast.tw5166284624678470388 : Nat := 0
def PySem.W.Fast.tw7556489130154334389 : Nat := 0
def PySem.W.Fast.tw6486593714222169301 : Nat := 0
def PySem.W.Fast.tw2837439415408062709 : Nat := 0
def PySem.W.Fast.tw14752295982973550869 : Nat := 0
def PySem.W.Fast.tw8209632329746731349 : Nat := 0
def PySem.W.Fast.tw16829462161066206581 : Nat := 0
def PySem.W.Fast.tw13931959789240316277 : Nat := 0
def PySem.W.Fast.tw10760176014632279445 : Nat := 0
def PySem.W.Fast.tw14006518143755609493 : Nat := 0
def PySem.W.Fast.tw11658878587465784757 : Nat := 0
def PySem.W.Fast.tw8778987527996721685 : Nat := 0
def PySem.W.Fast.tw12463008540408066613 : Nat := 0
def PySem.W.Fast.tw16861080052629797429 : Nat := 0
def PySem.W.Fast.tw3226893283634492021 : Nat := 0
def PySem.W.Fast.tw17856939203097363157 : Nat := 0
def PySem.W.Fast.tw3977567984889954197 : Nat := 0
def PySem.W.Fast.tw10646531288693196789 : Nat := 0
def PySem.W.Fast.tw13694414682859433973 : Nat := 0
def PySem.W.Fast.tw5831940640791043126 : Nat := 0
def PySem.W.Fast.tw3303087920178985110 : Nat := 0
def PySem.W.Fast.tw8007022440726370518 : Nat := 0
def PySem.W.Fast.tw12679438213619891414 : Nat := 0
def PySem.W.Fast.tw6957063722961144022 : Nat := 0
def PySem.W.Fast.tw7222808931298093302 : Nat := 0
def PySem.W.Fast.tw13264147480533982550 : Nat := 0
def PySem.W.Fast.tw2004882868735846998 : Nat := 0
def PySem.W.Fast.tw608348007042001654 : Nat := 0
def PySem.W.Fast.tw8837961725524922230 : Nat := 0
def PySem.W.Fast.tw1574051109772479350 : Nat := 0
def PySem.W.Fast.tw1837519420921714646 : Nat := 0
def PySem.W.Fast.tw762348096443993111 : Nat := 0
def PySem.W.Fast.tw9085166280958205079 : Nat := 0
def PySem.W.Fast.tw5915460823493057975 : Nat := 0
def PySem.W.Fast.tw659998434238151159 : Nat := 0
def PySem.W.Fast.tw16072638756016073431 : Nat := 0
def PySem.W.Fast.tw6400506820844739287 : Nat := 0
def PySem.W.Fast.tw8511765976633352055 : Nat := 0
def PySem.W.Fast.tw656690533751507992 : Nat := 0
def PySem.W.Fast.tw3464234696304456792 : Nat := 0
def PySem.W.Fast.tw16053485949291847832 : Nat := 0
def PySem.W.Fast.tw3029054934454180152 : Nat := 0
def PySem.W.Fast.tw14047783811776432472 : Nat := 0
def PySem.W.Fast.tw9903789409779430776 : Nat := 0
def PySem.W.Fast.tw12104682940855809784 : Nat := 0
def PySem.W.Fast.tw8976431800555508536 : Nat := 0
def PySem.W.Fast.tw16274219538243977016 : Nat := 0
def PySem.W.Fast.tw5639539396544402264 : Nat := 0
def PySem.W.Fast.tw12897549532333125657 : Nat := 0
def PySem.W.Fast.tw519856457348666489 : Nat := 0
def PySem.W.Fast.tw5448316393040147705 : Nat := 0
def PySem.W.Fast.tw14645017699449712057 : Nat := 0
def PySem.W.Fast.tw1525880798058781113 : Nat := 0
def PySem.W.Fast.tw4227124831474215417 : Nat := 0
def PySem.W.Fast.tw16063089366467026489 : Nat := 0
def PySem.W.Fast.tw4522977894001330777 : Nat := 0
def PySem.W.Fast.tw9787538333272550105 : Nat := 0
def PySem.W.Fast.tw1284249427343911705 : Nat := 0
def PySem.W.Fast.tw6843952581732022041 : Nat := 0
def PySem.W.Fast.tw3212980436446925721 : Nat := 0
def PySem.W.Fast.tw9949833129991301017 : Nat := 0
def PySem.W.Fast.tw11795171031338939321 : Nat := 0
def PySem.W.Fast.tw16904692606401037241 : Nat := 0
def PySem.W.Fast.tw845888705754231866 : Nat := 0
def PySem.W.Fast.tw5051812147115032698 : Nat := 0
def PySem.W.Fast.tw6859983446458400922 : Nat := 0
def PySem.W.Fast.tw5144855106600328506 : Nat := 0
def PySem.W.Fast.tw5799572754953270618 : Nat := 0
def PySem.W.Fast.tw15196330113190392154 : Nat := 0
def PySem.W.Fast.tw18052656921715268058 : Nat := 0
def PySem.W.Fast.tw10516100971893786362 : Nat := 0
def PySem.W.Fast.tw8271904145992283930 : Nat := 0
def PySem.W.Fast.tw14872713853252991834 : Nat := 0
def PySem.W.Fast.tw1930418357450323067 : Nat := 0
def PySem.W.Fast.tw87698362421444731 : Nat := 0
def PySem.W.Fast.tw4112695608603515035 : Nat := 0
def PySem.W.Fast.tw15104053087462419675 : Nat := 0
def PySem.W.Fast.tw3631170952032277851 : Nat := 0
def PySem.W.Fast.tw14294986845784479227 : Nat := 0
def PySem.W.Fast.tw8775780020674587259 : Nat := 0
def PySem.W.Fast.tw426020172337838779 : Nat := 0
def PySem.W.Fast.tw15464048676142715643 : Nat := 0
def PySem.W.Fast.tw11423128126476855163 : Nat := 0
def PySem.W.Fast.tw2352621204612933563 : Nat := 0
def PySem.W.Fast.tw11666166865305144251 : Nat := 0
def PySem.W.Fast.tw16566569745392934875 : Nat := 0
def PySem.W.Fast.tw12004156430090124283 : Nat := 0
def PySem.W.Fast.tw12829049849839875100 : Nat := 0
def PySem.W.Fast.tw607302519860632604 : Nat := 0
def PySem.W.Fast.tw8238731877998532732 : Nat := 0
def PySem.W.Fast.tw2560969218454563004 : Nat := 0
def PySem.W.Fast.tw7845192360824322268 : Nat := 0
def PySem.W.Fast.tw12288575232273119452 : Nat := 0
def PySem.W.Fast.tw4104558948042590524 : Nat := 0
def PySem.W.Fast.tw6277143307671384412 : Nat := 0
def PySem.W.Fast.tw3216849528852810236 : Nat := 0
def PySem.W.Fast.tw14222950482957083132 : Nat := 0
def PySem.W.Fast.tw8603259981275947612 : Nat := 0
def PySem.W.Fast.tw1043006347036318300 : Nat := 0
def PySem.W.Fast.tw7668838823520416444 : Nat := 0
def PySem.W.Fast.tw8741292496398432028 : Nat := 0
def PySem.W.Fast.tw11927596319740032860 : Nat := 0
def PySem.W.Fast.tw9501269924341537692 : Nat := 0
def PySem.W.Fast.tw1707229089590930396 : Nat := 0
def PySem.W.Fast.tw250987700496629756 : Nat := 0
def PySem.W.Fast.tw12676423602946209885 : Nat := 0
def PySem.W.Fast.tw14559036872542377053 : Nat := 0
def PySem.W.Fast.tw2228337032703666301 : Nat := 0
def PySem.W.Fast.tw9312162014158310557 : Nat := 0
def PySem.W.Fast.tw1548822520830814429 : Nat := 0
def PySem.W.Fast.tw225911423569255677 : Nat := 0
def PySem.W.Fast.tw8929110807261954333 : Nat := 0
def PySem.W.Fast.tw8003081710366044445 : Nat := 0
def PySem.W.Fast.tw16932880166586114429 : Nat := 0
def PySem.W.Fast.tw8123698323826654589 : Nat := 0
def PySem.W.Fast.tw5288644060799986045 : Nat := 0
def PySem.W.Fast.tw6750849032495514109 : Nat := 0
def PySem.W.Fast.tw9716819350769143325 : Nat := 0
def PySem.W.Fast.tw154919154061327101 : Nat := 0
def PySem.W.Fast.tw18017804100225824573 : Nat := 0
def PySem.W.Fast.tw17646642011031144317 : Nat := 0
def PySem.W.Fast.tw10020810556078193629 : Nat := 0
def PySem.W.Fast.tw9157689849830958270 : Nat := 0
def PySem.W.Fast.tw8464103459390030046 : Nat := 0
def PySem.W.Fast.tw9305366328223362334 : Nat := 0
def PySem.W.Fast.tw15981514824368657726 : Nat := 0
def PySem.W.Fast.tw6715163982872540670 : Nat := 0
def PySem.W.Fast.tw8027410494434120478 : Nat := 0
def PySem.W.Fast.tw9803987476380295966 : Nat := 0
def PySem.W.Fast.tw16208635870700191614 : Nat := 0
def PySem.W.Fast.tw2201688265406710686 : Nat := 0
def PySem.W.Fast.tw781348011125932127 : Nat := 0
def PySem.W.Fast.tw6108545973182455999 : Nat := 0
def PySem.W.Fast.tw5025869530759558367 : Nat := 0
def PySem.W.Fast.tw170214887768002815 : Nat := 0
def PySem.W.Fast.tw7226757946508508575 : Nat := 0
def PySem.W.Fast.tw12513080818499910079 : Nat := 0
def PySem.W.Fast.tw11353022887210529247 : Nat := 0
def PySem.W.Fast.tw18354781550318053983 : Nat := 0
def PySem.W.Fast.tw7019714355251530463 : Nat := 0
def PySem.W.Fast.tw7592105206893042399 : Nat := 0
def PySem.W.Fast.tw4422072611565321983 : Nat := 0
def PySem.W.Fast.tw1732621513589210879 : Nat := 0
def PySem.W.Fast.tw11342712949311953855 : Nat := 0
open PySem PySem.W PyProof.Rows
set_option maxRecDepth 100000 in
set_option maxHeartbeats 0 in
theorem PySem.Challenge.cw_byestand_k09_seats_of_two_fields_holds : PySem.Challenge.rw_byestand_k09_seats_of_two_fields.Holds := by
  w_on; o_law; k_head; (case hw => w_witness2)
  k_fill
  refine My.walk (l := PySem.Challenge.rw_byestand_k09_seats_of_two_fields) (tbl := 412) (c := 414) rfl rfl (fun w h Y => ⟨PySem.W.km_in_of Y, PySem.W.km_tabs_of Y _ (by decide)⟩) (fun P => ⟨rfl, rfl⟩) ?F
  case F =>
    intro w mg fa h KX G hmg
    refine' My.all_mk KX G hmg ?a_trios_of ?l_trios_of ?cc_trios_of ?kp_trios_of ?a__law_mixed ?l__law_mixed ?cc__law_mixed ?kp__law_mixed ?a__law_draw ?l__law_draw ?cc__law_draw ?kp__law_draw ?a__law_cell ?l__law_cell ?cc__law_cell ?kp__law_cell ?a__law_num ?l__law_num ?cc__law_num ?kp__law_num ?a__law_same ?l__law_same ?cc__law_same ?kp__law_same ?a__law_told ?l__law_told ?cc__law_told ?kp__law_told ?a__law_rows ?l__law_rows ?cc__law_rows ?kp__law_rows ?a__law_far_of ?l__law_far_of ?cc__law_far_of ?kp__law_far_of ?a_law ?l_law ?cc_law ?kp_law ?a_StandError ?a_BadPlan ?a_NoRound ?a_NoTable ?a_NoPair ?a_Plan ?fi_Plan____init__ ?l_Plan____init__ ?cc_Plan____init__ ?kp_Plan____init__ ?fn_Plan____init__ ?fi_Plan__rounds ?l_Plan__rounds ?cc_Plan__rounds ?kp_Plan__rounds ?fn_Plan__rounds ?fi_Plan__sets ?l_Plan__sets ?cc_Plan__sets ?kp_Plan__sets ?fn_Plan__sets ?fi_Plan__pairs ?l_Plan__pairs ?cc_Plan__pairs ?kp_Plan__pairs ?fn_Plan__pairs ?fi_Plan__need_round ?l_Plan__need_round ?cc_Plan__need_round ?kp_Plan__need_round ?fn_Plan__need_round ?fi_Plan__need_table ?l_Plan__need_table ?cc_Plan__need_table ?kp_Plan__need_table ?fn_Plan__need_table ?fi_Plan__need_pair ?l_Plan__need_pair ?cc_Plan__need_pair ?kp_Plan__need_pair ?fn_Plan__need_pair ?fi_Plan__field ?l_Plan__field ?cc_Plan__field ?kp_Plan__field ?fn_Plan__field ?fi_Plan__seat ?l_Plan__seat ?cc_Plan__seat ?kp_Plan__seat ?fn_Plan__seat ?fi_Plan__two_field_seat ?l_Plan__two_field_seat ?cc_Plan__two_field_seat ?kp_Plan__two_field_seat ?fn_Plan__two_field_seat ?fi_StandError____init__ ?l_StandError____init__ ?cc_StandError____init__ ?kp_StandError____init__ ?ty_StandError____init__ ?fi_BadPlan____init__ ?l_BadPlan____init__ ?cc_BadPlan____init__ ?kp_BadPlan____init__ ?ty_BadPlan____init__ ?fi_NoRound____init__ ?l_NoRound____init__ ?cc_NoRound____init__ ?kp_NoRound____init__ ?ty_NoRound____init__ ?fi_NoTable____init__ ?l_NoTable____init__ ?cc_NoTable____init__ ?kp_NoTable____init__ ?ty_NoTable____init__ ?fi_NoPair____init__ ?l_NoPair____init__ ?cc_NoPair____init__ ?kp_NoPair____init__ ?ty_NoPair____init__ ?pg_Plan ?hd_Plan ?po_Plan ?sa_Plan ?na_Plan_kind ?na_Plan_tables ?na_Plan_trios ?mk_Plan ?ck_Plan ?xo_StandError ?xA_StandError ?xG_StandError ?xH_StandError ?xo_BadPlan ?xA_BadPlan ?xG_BadPlan ?xH_BadPlan ?xk_BadPlan ?xw_BadPlan ?xi_BadPlan ?xj_BadPlan ?xo_NoRound ?xA_NoRound ?xG_NoRound ?xH_NoRound ?xk_NoRound ?xw_NoRound ?xi_NoRound ?xj_NoRound ?xo_NoTable ?xA_NoTable ?xG_NoTable ?xH_NoTable ?xk_NoTable ?xw_NoTable ?xi_NoTable ?xj_NoTable ?xo_NoPair ?xA_NoPair ?xG_NoPair ?xH_NoPair ?xk_NoPair ?xw_NoPair ?xi_NoPair ?xj_NoPair ?ci1 ?ci2 ?ci3 ?ci4 ?a_TABLES_OF ?tl_TABLES_OF ?te0_TABLES_OF ?tk0_TABLES_OF ?te1_TABLES_OF ?tk1_TABLES_OF ?te2_TABLES_OF ?tk2_TABLES_OF ?te3_TABLES_OF ?tk3_TABLES_OF ?ts_TABLES_OF ?z_ValueError ?z_abs ?z_all ?z_bool ?z_int ?z_isinstance ?z_len ?z_list ?z_range ?z_str ?z_tuple ?hch
    (case a_trios_of => k_is)
    (case l_trios_of => k_is)
    (case cc_trios_of => k_is)
    (case kp_trios_of => k_is)
    (case a__law_mixed => k_is)
    (case l__law_mixed => k_is)
    (case cc__law_mixed => k_is)
    (case kp__law_mixed => k_is)
    (case a__law_draw => k_is)
    (case l__law_draw => k_is)
    (case cc__law_draw => k_is)
    (case kp__law_draw => k_is)
    (case a__law_cell => k_is)
    (case l__law_cell => k_is)
    (case cc__law_cell => k_is)
    (case kp__law_cell => k_is)
    (case a__law_num => k_is)
    (case l__law_num => k_is)
    (case cc__law_num => k_is)
    (case kp__law_num => k_is)
    (case a__law_same => k_is)
    (case l__law_same => k_is)
    (case cc__law_same => k_is)
    (case kp__law_same => k_is)
    (case a__law_told => k_is)
    (case l__law_told => k_is)
    (case cc__law_told => k_is)
    (case kp__law_told => k_is)
    (case a__law_rows => k_is)
    (case l__law_rows => k_is)
    (case cc__law_rows => k_is)
    (case kp__law_rows => k_is)
    (case a__law_far_of => k_is)
    (case l__law_far_of => k_is)
    (case cc__law_far_of => k_is)
    (case kp__law_far_of => k_is)
    (case a_law => k_is)
    (case l_law => k_is)
    (case cc_law => k_is)
    (case kp_law => k_is)
    (case a_StandError => k_is)
    (case a_BadPlan => k_is)
    (case a_NoRound => k_is)
    (case a_NoTable => k_is)
    (case a_NoPair => k_is)
    (case a_Plan => k_is)
    (case fi_Plan____init__ => k_is)
    (case l_Plan____init__ => k_is)
    (case cc_Plan____init__ => k_is)
    (case kp_Plan____init__ => k_is)
    (case fn_Plan____init__ => k_is)
    (case fi_Plan__rounds => k_is)
    (case l_Plan__rounds => k_is)
    (case cc_Plan__rounds => k_is)
    (case kp_Plan__rounds => k_is)
    (case fn_Plan__rounds => k_is)
    (case fi_Plan__sets => k_is)
    (case l_Plan__sets => k_is)
    (case cc_Plan__sets => k_is)
    (case kp_Plan__sets => k_is)
    (case fn_Plan__sets => k_is)
    (case fi_Plan__pairs => k_is)
    (case l_Plan__pairs => k_is)
    (case cc_Plan__pairs => k_is)
    (case kp_Plan__pairs => k_is)
    (case fn_Plan__pairs => k_is)
    (case fi_Plan__need_round => k_is)
    (case l_Plan__need_round => k_is)
    (case cc_Plan__need_round => k_is)
    (case kp_Plan__need_round => k_is)
    (case fn_Plan__need_round => k_is)
    (case fi_Plan__need_table => k_is)
    (case l_Plan__need_table => k_is)
    (case cc_Plan__need_table => k_is)
    (case kp_Plan__need_table => k_is)
    (case fn_Plan__need_table => k_is)
    (case fi_Plan__need_pair => k_is)
    (case l_Plan__need_pair => k_is)
    (case cc_Plan__need_pair => k_is)
    (case kp_Plan__need_pair => k_is)
    (case fn_Plan__need_pair => k_is)
    (case fi_Plan__field => k_is)
    (case l_Plan__field => k_is)
    (case cc_Plan__field => k_is)
    (case kp_Plan__field => k_is)
    (case fn_Plan__field => k_is)
    (case fi_Plan__seat => k_is)
    (case l_Plan__seat => k_is)
    (case cc_Plan__seat => k_is)
    (case kp_Plan__seat => k_is)
    (case fn_Plan__seat => k_is)
    (case fi_Plan__two_field_seat => k_is)
    (case l_Plan__two_field_seat => k_is)
    (case cc_Plan__two_field_seat => k_is)
    (case kp_Plan__two_field_seat => k_is)
    (case fn_Plan__two_field_seat => k_is)
    (case fi_StandError____init__ => k_is)
    (case l_StandError____init__ => k_is)
    (case cc_StandError____init__ => k_is)
    (case kp_StandError____init__ => k_is)
    (case ty_StandError____init__ => k_is)
    (case fi_BadPlan____init__ => k_is)
    (case l_BadPlan____init__ => k_is)
    (case cc_BadPlan____init__ => k_is)
    (case kp_BadPlan____init__ => k_is)
    (case ty_BadPlan____init__ => k_is)
    (case fi_NoRound____init__ => k_is)
    (case l_NoRound____init__ => k_is)
    (case cc_NoRound____init__ => k_is)
    (case kp_NoRound____init__ => k_is)
    (case ty_NoRound____init__ => k_is)
    (case fi_NoTable____init__ => k_is)
    (case l_NoTable____init__ => k_is)
    (case cc_NoTable____init__ => k_is)
    (case kp_NoTable____init__ => k_is)
    (case ty_NoTable____init__ => k_is)
    (case fi_NoPair____init__ => k_is)
    (case l_NoPair____init__ => k_is)
    (case cc_NoPair____init__ => k_is)
    (case kp_NoPair____init__ => k_is)
    (case ty_NoPair____init__ => k_is)
    (case pg_Plan => k_is)
    (case hd_Plan => k_is)
    (case po_Plan => k_is)
    (case sa_Plan => k_is)
    (case na_Plan_kind => k_is)
    (case na_Plan_tables => k_is)
    (case na_Plan_trios => k_is)
    (case mk_Plan => k_is)
    (case ck_Plan => k_is)
    (case xo_StandError => k_is)
    (case xA_StandError => k_is)
    (case xG_StandError => k_is)
    (case xH_StandError => k_is)
    (case xo_BadPlan => k_is)
    (case xA_BadPlan => k_is)
    (case xG_BadPlan => k_is)
    (case xH_BadPlan => k_is)
    (case xk_BadPlan => k_is)
    (case xw_BadPlan => k_is)
    (case xi_BadPlan => k_is)
    (case xj_BadPlan => rfl)
    (case xo_NoRound => k_is)
    (case xA_NoRound => k_is)
    (case xG_NoRound => k_is)
    (case xH_NoRound => k_is)
    (case xk_NoRound => k_is)
    (case xw_NoRound => k_is)
    (case xi_NoRound => k_is)
    (case xj_NoRound => rfl)
    (case xo_NoTable => k_is)
    (case xA_NoTable => k_is)
    (case xG_NoTable => k_is)
    (case xH_NoTable => k_is)
    (case xk_NoTable => k_is)
    (case xw_NoTable => k_is)
    (case xi_NoTable => k_is)
    (case xj_NoTable => rfl)
    (case xo_NoPair => k_is)
    (case xA_NoPair => k_is)
    (case xG_NoPair => k_is)
    (case xH_NoPair => k_is)
    (case xk_NoPair => k_is)
    (case xw_NoPair => k_is)
    (case xi_NoPair => k_is)
    (case xj_NoPair => rfl)
    (case ci1 => k_is)
    (case ci2 => k_is)
    (case ci3 => k_is)
    (case ci4 => rfl)
    (case a_TABLES_OF => k_is)
    (case tl_TABLES_OF => k_is)
    (case te0_TABLES_OF => rfl)
    (case tk0_TABLES_OF => k_is)
    (case te1_TABLES_OF => rfl)
    (case tk1_TABLES_OF => k_is)
    (case te2_TABLES_OF => rfl)
    (case tk2_TABLES_OF => k_is)
    (case te3_TABLES_OF => rfl)
    (case tk3_TABLES_OF => k_is)
    (case ts_TABLES_OF => rfl)
    (case z_ValueError => k_is)
    (case z_abs => k_is)
    (case z_all => k_is)
    (case z_bool => k_is)
    (case z_int => k_is)
    (case z_isinstance => k_is)
    (case z_len => k_is)
    (case z_list => k_is)
    (case z_range => k_is)
    (case z_str => k_is)
    (case z_tuple => k_is)
    (case hch => rfl)

