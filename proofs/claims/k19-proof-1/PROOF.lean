import PyProof.Rows.All
import Wide.All
import OpenK.AllK
import Wide.FinOn
import Lean
import PyProof.EqAt
import PyProof.EqKinds
import PyProof.TupleCall
import PyProof.Walks
import PySem.Challenge.RW_racewise_k19_whole_knots_show_a_ring
import PyProof.P3Eq
set_option Elab.async false
set_option linter.all false
set_option maxRecDepth 100000
namespace L2
open PySem PySem.Spec PyProof.Rows
abbrev Key := Sum Int Str
def keyIs : Key → Value → Bool
  | .inl k, v => Value.isInt k v
  | .inr x, v => Value.isStrOf x v
def keyH (w : World) : Key → Int
  | .inl k => hashInt k
  | .inr x => hashStr w x
theorem keyIs_shape : ∀ {k : Key} {v : Value}, keyIs k v = true → (∃ i t, k = Sum.inl i ∧ v = Value.int i t) ∨ (∃ x t, k = Sum.inr x ∧ v = Value.str x t)
  | .inl i, v, h => by
    obtain ⟨t, e⟩ := Value.isInt_shape (k := i) (v := v) h
    exact .inl ⟨i, t, rfl, e⟩
  | .inr x, v, h => by
    obtain ⟨t, e⟩ := Value.isStrOf_shape (x := x) (v := v) h
    exact .inr ⟨x, t, rfl, e⟩
theorem keyIs_int (i : Int) (t : Tok) : keyIs (.inl i) (.int i t) = true := by simp [keyIs, Value.isInt]
theorem keyIs_str (x : Str) (t : Tok) : keyIs (.inr x) (.str x t) = true := by simp [keyIs, Value.isStrOf]
theorem key_ll (a b : Int) : decide ((Sum.inl a : Key) = Sum.inl b) = (a == b) := by
  by_cases e : a = b
  · subst e; simp
  · have h : ¬ (Sum.inl a : Key) = Sum.inl b := fun q => e (Sum.inl.inj q)
    rw [decide_eq_false h]
    exact (beq_eq_false_iff_ne.mpr e).symm
theorem key_rr (a b : Str) : decide ((Sum.inr a : Key) = Sum.inr b) = decide (a = b) := by
  by_cases e : a = b
  · subst e; simp
  · have h : ¬ (Sum.inr a : Key) = Sum.inr b := fun q => e (Sum.inr.inj q)
    rw [decide_eq_false h, decide_eq_false e]
theorem key_lr (a : Int) (b : Str) : decide ((Sum.inl a : Key) = Sum.inr b) = false := decide_eq_false (fun q => nomatch q)
theorem key_rl (a : Str) (b : Int) : decide ((Sum.inr a : Key) = Sum.inl b) = false := decide_eq_false (fun q => nomatch q)
def mixKind (prog : Program) (w : World) : PySem.KeyKind prog w Key where
  is := keyIs
  hash := keyH w
  inj := fun v a b ha hb => by
    rcases keyIs_shape ha with ⟨i, t, rfl, rfl⟩ | ⟨x, t, rfl, rfl⟩
    · rcases keyIs_shape hb with ⟨j, u, rfl, e⟩ | ⟨y, u, rfl, e⟩
      · injection e with e1 _; rw [e1]
      · exact nomatch e
    · rcases keyIs_shape hb with ⟨j, u, rfl, e⟩ | ⟨y, u, rfl, e⟩
      · exact nomatch e
      · injection e with e1 _; rw [e1]
  byValue := fun k v h => by
    rcases keyIs_shape h with ⟨i, t, rfl, rfl⟩ | ⟨x, t, rfl, rfl⟩ <;> rfl
  pyHash := fun hv h => by
    rcases keyIs_shape hv with ⟨i, t, rfl, rfl⟩ | ⟨x, t, rfl, rfl⟩
    · exact wpAny_pyHash_int h
    · exact wpAny_pyHash_str h
  eqBool := fun hu hv h => by
    rcases keyIs_shape hu with ⟨i, t, rfl, rfl⟩ | ⟨x, t, rfl, rfl⟩
    · rcases keyIs_shape hv with ⟨j, u, rfl, rfl⟩ | ⟨y, u, rfl, rfl⟩
      · rw [key_ll] at h; exact wpAny_eqBool_int h
      · rw [key_lr] at h; exact SeqAt.EqAt.int_str i t y u _ _ _ _ h
    · rcases keyIs_shape hv with ⟨j, u, rfl, rfl⟩ | ⟨y, u, rfl, rfl⟩
      · rw [key_rl] at h; exact SeqAt.EqAt.str_int x t j u _ _ _ _ h
      · rw [key_rr] at h; exact wpAny_eqBool_str h
  «strs» := fun k x t v h => by
    rcases keyIs_shape h with ⟨i, u, rfl, e⟩ | ⟨y, u, rfl, e⟩
    · exact nomatch e
    · injection e with e1 _
      subst e1
      cases v <;> rfl
theorem mixKind_int (prog : Program) (w : World) (i : Int) (t : Tok) : (mixKind prog w).is (.inl i) (.int i t) = true := keyIs_int i t
theorem mixKind_str (prog : Program) (w : World) (x : Str) (t : Tok) : (mixKind prog w).is (.inr x) (.str x t) = true := keyIs_str x t
end L2
namespace L2
open PySem PySem.Spec PyProof.Rows
inductive V where
  | non | bl (b : Bool) | int (i : Int) | str (x : Str) | byt (b : Array UInt8) | flt (b : UInt64) | ref (a : Addr) | ty (n : String)
  deriving DecidableEq
def RelV : V → Value → Prop
  | .non, u => u = Value.none
  | .bl b, u => u = Value.bool b
  | .int i, u => ∃ t, u = Value.int i t
  | .str x, u => ∃ t, u = Value.str x t
  | .byt b, u => ∃ t, u = Value.bytes b t
  | .flt b, u => ∃ t, u = Value.float b t
  | .ref a, u => u = Value.ref a
  | .ty n, u => u = Value.type n
abbrev Vals : List V → List Value → Prop := Paired RelV
theorem Vals.length {xs : List V} {us : List Value} (r : Vals xs us) : xs.length = us.length := Paired.length r
theorem Vals.get : ∀ {xs : List V} {us : List Value} {i : Nat} {x : V}, Vals xs us → xs[i]? = some x → ∃ u, us[i]? = some u ∧ RelV x u
  | _, _, _, _, .nil, e => by simp at e
  | _, _, 0, _, .cons r _, e => by simp at e; subst e; exact ⟨_, rfl, r⟩
  | _, _, i + 1, x, .cons _ t, e => by
    obtain ⟨u, h1, h2⟩ := Vals.get (i := i) (x := x) t (by simpa using e)
    exact ⟨u, by simpa using h1, h2⟩
theorem Vals.set {x : V} {u : Value} (r : RelV x u) : ∀ {xs : List V} {us : List Value} (i : Nat), Vals xs us → Vals (xs.set i x) (us.set i u)
  | _, _, _, .nil => .nil
  | _, _, 0, .cons _ t => .cons r t
  | _, _, i + 1, .cons q t => .cons q (Vals.set r i t)
theorem Vals.append : ∀ {xs ys : List V} {us ws : List Value}, Vals xs us → Vals ys ws → Vals (xs ++ ys) (us ++ ws)
  | _, _, _, _, .nil, s => s
  | _, _, _, _, .cons r t, s => .cons r (Vals.append t s)
def RelO : Option V → Option Value → Prop
  | some v, some u => RelV v u
  | none, none => True
  | _, _ => False
def KV {κ : Type} : List (κ × V) → List (κ × Value) → Prop := Paired fun (p : κ × V) (q : κ × Value) => p.1 = q.1 ∧ RelV p.2 q.2
def kV : Key → V
  | .inl i => .int i
  | .inr x => .str x
inductive HO where
  /-- a list -/
  | lst (xs : List V)
  /-- a tuple (never changes) -/
  | tup (xs : List V)
  /-- a dict whose keys are ints and texts; one whose keys are tuples of ints and texts (the empty one is both) -/
  | dK (kvs : List (Key × V)) | dT (kvs : List (List Key × V))
  /-- a set of ints: its members, its size -/
  | set (S : Int → Bool) (n : Nat)
  /-- an instance of the class at C, its dict at dx, its attributes -/
  | ins (C dx : Addr) (fs : List (Str × V))
  /-- the dict of the instance at x -/
  | own (x : Addr)
  /-- the dict of an exception -/
  | xd (fs : List (Str × V))
  /-- a bound method, f of x -/
  | met (f x : Addr)
  /-- a range object lo, lo + 1, .. below hi -/
  | rng (lo hi : Int)
  /-- a thing that is known to the object (the script; a dict while a loop walks it): read, never written while it is so -/
  | frz (o : Obj) (u : HO)
  /-- a code object's table -/
  | tbl (ps : Array Value)
  /-- any other thing, by what is true of its one object (a def of one's own: SetO a S n := HO.ext fun h => ..) -/
  | ext (φ : Heap → Prop)
abbrev Hp := Addr → Option HO
def upd (H : Hp) (a : Addr) (o : HO) : Hp := fun b => if b = a then some o else H b
theorem upd_same {H : Hp} {a : Addr} {o : HO} : upd H a o a = some o := by unfold upd; rw [if_pos rfl]
theorem upd_ne {H : Hp} {a b : Addr} {o : HO} (h : b ≠ a) : upd H a o b = H b := by unfold upd; rw [if_neg h]
theorem upd_upd {H : Hp} {a : Addr} {o u : HO} : upd (upd H a o) a u = upd H a u := by
  funext b; unfold upd; split <;> rfl
theorem ne_of {H : Hp} {a b : Addr} {o u : HO} (h : H a = some o) (h' : H b = some u) (d : o ≠ u) : a ≠ b := by
  intro e; subst e; rw [h] at h'; exact d (Option.some.inj h')
theorem ne_of_none {H : Hp} {a b : Addr} {o : HO} (h : H a = some o) (h' : H b = none) : a ≠ b := by
  intro e; subst e; rw [h] at h'; cases h'
section
variable (P : Program) (w : World)
def ObjOk (H : Hp) (h : Heap) (a : Addr) : HO → Prop
  | .lst xs => xs.length ≤ sizeLine ∧ ∃ (its : List Value) (n : Nat), Vals xs its ∧ h.get? a = some { cls := .type "list", data := .seq its.toArray n }
  | .tup xs => xs.length ≤ sizeLine ∧ ∃ its : List Value, Vals xs its ∧ IsTup h a its.toArray
  | .dK kvs => kvs.length ≤ sizeLine ∧ (a == sysModules) = false ∧ ∃ vs, KV kvs vs ∧ h.DictOf (mixKind P w) a vs
  | .dT kvs => kvs.length ≤ sizeLine ∧ (a == sysModules) = false ∧ ∃ xs : List (List Key × Addr × Value),
      Paired (fun (p : List Key × V) (q : List Key × Addr × Value) => p.1 = q.1 ∧ H q.2.1 = some (.tup (p.1.map kV)) ∧ RelV p.2 q.2.2) kvs xs ∧
      ∃ o es ep, h.get? a = some o ∧ o.ExactDict ∧ o.data = .dict es ep ∧ es.toList = xs.map (entryOfKey (tupleKind (mixKind P w))) ∧ (xs.map (·.1)).Nodup
  | .set S n => h.SetOf (intKind P w) a S n
  | .ins C dx fs => H dx = some (.own a) ∧ fs.length ≤ 1000 ∧ dx ≠ a ∧ h.get? a = some (PySem.W.instObj C dx) ∧
      ∃ mA, h.Ns1 dx mA ∧ (∀ f, RelO (fs.lookup f) (mA f)) ∧ PySem.Within mA (fs.map (·.1))
  | .own _ => ∃ o, h.get? a = some o
  | .xd fs => ∃ mA, h.Ns1 a mA ∧ ∀ f, RelO (fs.lookup f) (mA f)
  | .rng lo hi => ∃ t u v, h.get? a = some { cls := .type "range", data := .fields #[.int lo t, .int hi u, .int 1 v] }
  | .frz o u => h.get? a = some o ∧ ObjOk H h a u
  | .tbl ps => h.get? a = some { cls := .none, data := .fields ps }
  | .met f x => h.get? a = some (PySem.W.methodObj (.ref f) (.ref x))
  | .ext φ => φ h ∧ (∃ o, h.get? a = some o) ∧ ∀ h1 h2 : Heap, φ h1 → (∀ o, h1.get? a = some o → h2.get? a = some o) → φ h2
def HOk (H : Hp) (h : Heap) : Prop := ∀ a o, H a = some o → ObjOk P w H h a o
end
section
variable {P : Program} {w : World} {H H' : Hp} {h h' : Heap} {a : Addr} {o : HO}
theorem ObjOk.lt (x : ObjOk P w H h a o) : a < h.objs.size := by
  cases o with
  | lst xs => obtain ⟨_, _, _, _, e⟩ := x; exact Heap.lt_size e
  | tup xs => obtain ⟨_, _, _, p⟩ := x; exact p.lt
  | dK kvs => obtain ⟨_, _, _, _, o, _, _, e, _⟩ := x; exact Heap.lt_size e
  | dT kvs => obtain ⟨_, _, _, _, o, _, _, e, _⟩ := x; exact Heap.lt_size e
  | set S n => obtain ⟨o, _, _, _, e, _⟩ := x; exact Heap.lt_size e
  | ins C dx fs => obtain ⟨_, _, _, e, _⟩ := x; exact Heap.lt_size e
  | own y => obtain ⟨_, e⟩ := x; exact Heap.lt_size e
  | xd fs => obtain ⟨_, ⟨_, _, _, e, _⟩, _⟩ := x; exact Heap.lt_size e
  | rng lo hi => obtain ⟨_, _, _, e⟩ := x; exact Heap.lt_size e
  | frz ob u => obtain ⟨e, _⟩ := x; exact Heap.lt_size e
  | tbl ps => exact Heap.lt_size (show h.get? a = some _ from x)
  | met f y => exact Heap.lt_size (show h.get? a = some _ from x)
  | ext φ => obtain ⟨_, ⟨_, e⟩, _⟩ := x; exact Heap.lt_size e
theorem Paired.mapP {α β : Type} {F G : α → β → Prop} : ∀ {l₁ : List α} {l₂ : List β}, Paired F l₁ l₂ → (∀ a b, F a b → G a b) → Paired G l₁ l₂
  | _, _, .nil, _ => .nil
  | _, _, .cons r t, f => .cons (f _ _ r) (Paired.mapP t f)
theorem ObjOk.stay (x : ObjOk P w H h a o) (k : ∀ b u, (b = a ∨ H b = some (.own a)) → h.get? b = some u → h'.get? b = some u)
    (ho : ∀ b, H b = some (.own a) → H' b = some (.own a)) (ht : ∀ b xs, H b = some (.tup xs) → H' b = some (.tup xs)) : ObjOk P w H' h' a o := by
  induction o with
  | lst xs => obtain ⟨z, its, n, r, e⟩ := x; exact ⟨z, its, n, r, k _ _ (.inl rfl) e⟩
  | tup xs => obtain ⟨z, its, r, ob, e, c⟩ := x; exact ⟨z, its, r, ob, k _ _ (.inl rfl) e, c⟩
  | dK kvs => obtain ⟨z, y, vs, r, ob, es, ep, e, c⟩ := x; exact ⟨z, y, vs, r, ob, es, ep, k _ _ (.inl rfl) e, c⟩
  | dT kvs =>
    obtain ⟨z, y, xs, r, ob, es, ep, e, c⟩ := x
    exact ⟨z, y, xs, Paired.mapP r fun p q z => ⟨z.1, ht _ _ z.2.1, z.2.2⟩, ob, es, ep, k _ _ (.inl rfl) e, c⟩
  | set S n => obtain ⟨ob, es, ep, t, e, c⟩ := x; exact ⟨ob, es, ep, t, k _ _ (.inl rfl) e, c⟩
  | ins C dx fs =>
    obtain ⟨d, z, ne, e, mA, ⟨od, es, ep, e2, c⟩, r⟩ := x
    exact ⟨ho _ d, z, ne, k _ _ (.inl rfl) e, mA, ⟨od, es, ep, k _ _ (.inr d) e2, c⟩, r⟩
  | own y => obtain ⟨ob, e⟩ := x; exact ⟨ob, k _ _ (.inl rfl) e⟩
  | xd fs => obtain ⟨mA, ⟨od, es, ep, e, c⟩, r⟩ := x; exact ⟨mA, ⟨od, es, ep, k _ _ (.inl rfl) e, c⟩, r⟩
  | rng lo hi => obtain ⟨t, u, v, e⟩ := x; exact ⟨t, u, v, k _ _ (.inl rfl) e⟩
  | frz ob u ih => obtain ⟨e, q⟩ := x; exact ⟨k _ _ (.inl rfl) e, ih q⟩
  | tbl ps =>
    have e : h.get? a = some { cls := .none, data := .fields ps } := x
    show h'.get? a = some { cls := .none, data := .fields ps }
    exact k a _ (.inl rfl) e
  | met f y =>
    have e : h.get? a = some (PySem.W.methodObj (.ref f) (.ref y)) := x
    show h'.get? a = some (PySem.W.methodObj (.ref f) (.ref y))
    exact k a _ (.inl rfl) e
  | ext φ => obtain ⟨p, ⟨o, e⟩, st⟩ := x; exact ⟨st _ _ p fun o q => k _ _ (.inl rfl) q, ⟨o, k _ _ (.inl rfl) e⟩, st⟩
theorem HOk.lt (x : HOk P w H h) (e : H a = some o) : a < h.objs.size := (x a o e).lt
theorem HOk.fresh (x : HOk P w H h) (e : h.objs.size ≤ a) : H a = none := by
  cases q : H a with
  | none => rfl
  | some u => exact absurd (Nat.lt_of_lt_of_le (x.lt q) e) (Nat.lt_irrefl _)
theorem HOk.kept (x : HOk P w H h) (k : ∀ b u, h.get? b = some u → h'.get? b = some u) : HOk P w H h' := fun a o e =>
  (x a o e).stay (fun b u _ q => k b u q) (fun _ q => q) fun _ _ q => q
theorem HOk.laid (x : HOk P w H h) (k : ∀ b u, h.get? b = some u → h'.get? b = some u) (hp : h.objs.size ≤ a) (new : ObjOk P w (upd H a o) h' a o) : HOk P w (upd H a o) h' := fun b u e => by
  have hn := x.fresh hp
  by_cases hb : b = a
  · subst hb; rw [upd_same] at e; cases e; exact new
  · rw [upd_ne hb] at e
    exact (x b u e).stay (fun c v _ q => k c v q) (fun c q => by rw [upd_ne (ne_of_none q hn)]; exact q) fun c xs q => by rw [upd_ne (ne_of_none q hn)]; exact q
end
def Rd (H : Hp) (a : Addr) (u : HO) : Prop := H a = some u ∨ ∃ o, H a = some (.frz o u)
theorem Rd.ok {P : Program} {w : World} {H : Hp} {h : Heap} {a : Addr} {u : HO} (r : Rd H a u) (x : HOk P w H h) : ObjOk P w H h a u := by
  rcases r with r | ⟨o, r⟩
  · exact x a u r
  · obtain ⟨_, q⟩ := x a _ r
    exact q
def Mut : Option HO → Prop
  | some (.lst _) => True
  | some (.dK _) => True
  | some (.dT _) => True
  | some (.set _ _) => True
  | some (.ins _ _ _) => True
  | some (.ext _) => True
  | _ => False
section
variable {P : Program} {w : World} {H : Hp} {h h' : Heap} {x e : Addr} {o' : HO}
theorem HOk.write (ok : HOk P w H h) (mu : Mut (H x)) (he : e = x ∨ H e = some (.own x)) (k : ∀ b u, b ≠ e → h.get? b = some u → h'.get? b = some u) (heo : ∃ u, h'.get? e = some u)
    (new : ObjOk P w (upd H x o') h' x o') : HOk P w (upd H x o') h' := fun b u q => by
  have nown : ∀ c y, H c = some (.own y) → c ≠ x := fun c y r z => by subst z; rw [r] at mu; exact mu
  have ntup : ∀ c xs, H c = some (.tup xs) → c ≠ x := fun c xs r z => by subst z; rw [r] at mu; exact mu
  by_cases hb : b = x
  · subst hb; rw [upd_same] at q; cases q; exact new
  · rw [upd_ne hb] at q
    by_cases hbe : b = e
    · have q' : H b = some (.own x) := by
        rcases he with z | z
        · exact absurd (hbe.trans z) hb
        · rw [hbe]; exact z
      rw [q] at q'; cases q'
      obtain ⟨v, hv⟩ := heo
      exact ⟨v, by rw [hbe]; exact hv⟩
    · refine (ok b u q).stay (fun c v hc r => k c v ?_ r) (fun c r => by rw [upd_ne (nown c b r)]; exact r) fun c xs r => by rw [upd_ne (ntup c xs r)]; exact r
      rcases hc with rfl | hc
      · exact hbe
      · rintro rfl
        rcases he with z | z
        · exact nown c b hc z
        · rw [hc] at z; cases z; exact hb rfl
end
structure Un (fs ex : List Addr) (H H' : Hp) (h h' : Heap) : Prop where
  keep : ∀ b o, h.get? b = some o → H b = none → b ∉ fs → b ∉ ex → h'.get? b = some o
  slot : ∀ b o, h.get? b = some o → H b = none → b ∈ fs → b ∉ ex → ∃ sl, h'.get? b = some { o with slots := sl }
  free : ∀ b o, h.get? b = some o → H b = none → b ∉ ex → H' b = none
  there : ∀ b o, h.get? b = some o → b ∉ ex → ∃ o', h'.get? b = some o'
  tups : ∀ b xs, H b = some (.tup xs) → H' b = some (.tup xs)
  frzs : ∀ b o u, H b = some (.frz o u) → H' b = some (.frz o u)
  tbls : ∀ b ps, H b = some (.tbl ps) → ∃ more, H' b = some (.tbl (ps ++ more))
section
variable {fs fs' ex ex' : List Addr} {H H1 H2 : Hp} {h h1 h2 h' : Heap} {a x e : Addr} {o : HO}
theorem Un.any (u : Un fs ex H H1 h h1) {b : Addr} {ob : Obj} (q : h.get? b = some ob) (n : H b = none) (hx : b ∉ ex) : ∃ sl, h1.get? b = some { ob with slots := sl } := by
  by_cases hb : b ∈ fs
  · exact u.slot b ob q n hb hx
  · exact ⟨ob.slots, u.keep b ob q n hb hx⟩
theorem Un.kept (k : ∀ b u, h.get? b = some u → h'.get? b = some u) : Un fs ex H H h h' :=
  ⟨fun b ob q _ _ _ => k b ob q, fun b ob q _ _ _ => ⟨ob.slots, k b ob q⟩, fun _ _ _ n _ => n, fun b ob q _ => ⟨ob, k b ob q⟩, fun _ _ q => q, fun _ _ _ q => q, fun _ ps q => ⟨#[], by rw [q]; simp⟩⟩
theorem Un.refl : Un fs ex H H h h := Un.kept fun _ _ q => q
theorem Un.laid (k : ∀ b u, h.get? b = some u → h'.get? b = some u) (hp : h.objs.size ≤ a) (hn : H a = none) : Un fs ex H (upd H a o) h h' where
  keep := fun b u q _ _ _ => k b u q
  slot := fun b u q _ _ _ => ⟨u.slots, k b u q⟩
  free := fun b u q n _ => by rw [upd_ne (Nat.ne_of_lt (Nat.lt_of_lt_of_le (Heap.lt_size q) hp))]; exact n
  there := fun b u q _ => ⟨u, k b u q⟩
  tups := fun b xs q => by rw [upd_ne (ne_of_none q hn)]; exact q
  frzs := fun b u xs q => by rw [upd_ne (ne_of_none q hn)]; exact q
  tbls := fun b ps q => ⟨#[], by rw [upd_ne (ne_of_none q hn), q]; simp⟩
theorem Un.write (mu : Mut (H x)) (he : e = x ∨ H e = some (.own x)) (k : ∀ b u, b ≠ e → h.get? b = some u → h'.get? b = some u) (heo : ∃ u, h'.get? e = some u) : Un fs ex H (upd H x o) h h' := by
  have hx : ∀ b, H b = none → b ≠ x := fun b n z => by subst z; rw [n] at mu; exact mu
  have hb : ∀ b, H b = none → b ≠ e := fun b n z => by
    subst z
    rcases he with r | r
    · exact hx b n r
    · rw [n] at r; cases r
  have hm : ∀ b u, H b = some u → ¬ Mut (some u) → b ≠ x := fun b u q nm z => by subst z; rw [q] at mu; exact nm mu
  refine ⟨fun b u q n _ _ => k b u (hb b n) q, fun b u q n _ _ => ⟨u.slots, k b u (hb b n) q⟩, fun b u q n _ => by rw [upd_ne (hx b n)]; exact n, fun b u q _ => ?_,
    fun b xs q => by rw [upd_ne (hm b _ q fun z => z)]; exact q, fun b u xs q => by rw [upd_ne (hm b _ q fun z => z)]; exact q, fun b ps q => ⟨#[], by rw [upd_ne (hm b _ q fun z => z), q]; simp⟩⟩
  by_cases hbe : b = e
  · subst hbe; exact heo
  · exact ⟨u, k b u hbe q⟩
end
def trk (h : Heap) (H : Hp) : List Addr := (List.range h.objs.size).filter fun a => (H a).isSome
def hidT (h : Heap) (H : Hp) : Heap := PySem.W.hideAll h (trk h H)
theorem hidT_size (h : Heap) (H : Hp) : (hidT h H).objs.size = h.objs.size := PySem.W.hideAll_size _ _
theorem hidT_get {h : Heap} {H : Hp} {b : Addr} {o : Obj} (e : h.get? b = some o) (n : H b = none) : (hidT h H).get? b = some o :=
  PySem.W.hideAll_get _ e fun hm => by
    have q : (H b).isSome = true := (List.mem_filter.mp hm).2
    rw [n] at q; simp at q
theorem of_hidT {h : Heap} {H : Hp} {b : Addr} {o : Obj} (e : (hidT h H).get? b = some o) : h.get? b = some o ∧ H b = none := by
  have e' : h.get? b = some o := PySem.W.of_hideAll (trk h H) e
  refine ⟨e', ?_⟩
  cases q : H b with
  | none => rfl
  | some x =>
    have hm : b ∈ trk h H := List.mem_filter.mpr ⟨List.mem_range.mpr (Heap.lt_size e'), by simp [q]⟩
    have z : (hidT h H).get? b = none := PySem.W.hideAll_none (trk h H) hm
    rw [z] at e; cases e
def allNews (g h : Heap) (L : Addr) : List (Addr × Obj) := (List.range h.objs.size).filterMap fun a => if a = L ∨ (g.get? a).isSome = true then none else (h.get? a).map fun o => (a, o)
def rest (g h : Heap) (L d : Addr) : List (Addr × Obj) := (allNews g h L).filter fun p => decide (p.1 ≠ d)
end L2
namespace L2
open PySem PySem.Spec PyProof.Rows
structure Mod (K : PySem.W.Frag) (mg : Str → Option Value) (base : Heap) : Prop where
  kin : K.In base
  glob : base.Ns mainGlobals mg
  blt : ∃ mb, base.Ns builtinsNs mb ∧ ∀ x : Str, x ≠ "__name__" → mb x = bootBuiltins x
  nolimit : base.NoLimit
structure Cx where
  prog : Program
  w : World
  K : PySem.W.Frag
  mg : Str → Option Value
  base : Heap
  A : Around
  N : List Str
  s₀ : Shared
  H₀ : Hp
  env : Env
  outer : List Env
  stack : List Env
  ex : List Addr
  fn : Str → Bool
  calm : Bool
  pn : List (Addr × Obj)
  xe : Value → Shared → Prop
def frs (l : List Env) : List Addr := l.filterMap (·.frame)
abbrev Cx.fs (X : Cx) : List Addr := frs X.outer
def Vis (sc : Scope) (x : Str) : Prop := sc.names.lookup x = some .local ∨ sc.names.lookup x = some .cell ∨ sc.names.lookup x = some .free
def Loc (sc : Scope) (x : Str) : Prop := sc.names.lookup x = some .local ∨ sc.names.lookup x = some .cell
def Look (env : Env) (h : Heap) (m : Str → Option Value) (x : Str) (u : Value) : Prop :=
  (env.kindOf x = some .local ∧ m x = some u) ∨ ((env.kindOf x = some .cell ∨ env.kindOf x = some .free) ∧ ∃ c, env.cells.lookup x = some c ∧ h.IsCell c (some u))
structure Cx.Ok (X : Cx) : Prop where
  mod : Mod X.K X.mg X.base
  kind : X.env.scope.kind = .function
  glob : X.env.globals = mainGlobals
  blt : X.env.builtins = builtinsNs
  above : X.s₀.heap.objs.size ≤ X.env.locals
  inj : ∀ x y c, X.env.cells.lookup x = some c → X.env.cells.lookup y = some c → x = y
  has : ∀ x, (X.env.kindOf x = some .cell ∨ X.env.kindOf x = some .free) → ∃ c, X.env.cells.lookup x = some c
  cab : ∀ x c, X.fn x = true → X.env.cells.lookup x = some c → X.s₀.heap.objs.size ≤ c
  hd : X.calm = true → X.A.handled = none
  frames : X.A.frames = some X.stack
  stk : X.stack = X.outer ∨ (X.stack = X.env :: X.outer ∧ X.env.frame = some X.env.locals)
  exf : ∀ b ∈ X.ex, b ≠ X.env.locals ∧ ∀ x c, X.env.cells.lookup x = some c → c ≠ b
  bs : ∀ b o, X.base.get? b = some o → X.s₀.heap.get? b = some o ∧ X.H₀ b = none
  bsz : X.base.objs.size ≤ X.s₀.heap.objs.size
  noex : ∀ b o, X.base.get? b = some o → b ∉ X.ex
  exfs : ∀ b ∈ X.ex, b ∉ X.fs
  funs : X.s₀.heap.FunFrames X.base X.outer
  frf : ∀ b ∈ X.fs, X.H₀ b = none
structure Inv (X : Cx) (pins : List (Addr × Obj)) (σ : List (Option V)) (H : Hp) (s : Shared) : Prop where
  ok : X.Ok
  os : s.os = X.s₀.os
  bare : AllBare s.gens
  base : Un X.fs X.ex X.H₀ H X.s₀.heap s.heap
  loc : ∃ m, s.heap.Ns X.env.locals m ∧ ∀ (i : Nat) (x : Str) (v : V), X.N[i]? = some x → σ[i]? = some (some v) → Vis X.env.scope x → ∃ u, RelV v u ∧ Look X.env s.heap m x u
  cell : ∀ x c, X.env.cells.lookup x = some c → ∃ v, s.heap.IsCell c v
  free : H X.env.locals = none
  freeC : ∀ x c, X.env.cells.lookup x = some c → H c = none
  pin : ∀ p ∈ X.pn ++ pins, s.heap.get? p.1 = some p.2 ∧ H p.1 = none ∧ p.1 ≠ X.env.locals ∧ p.1 ∉ X.fs ∧ ∀ v, p.2.data ≠ .cell v
  hok : HOk X.prog X.w H s.heap
  len : σ.length = X.N.length
section
variable {X : Cx} {pins : List (Addr × Obj)} {σ : List (Option V)} {H H' : Hp} {s : Shared} {h' : Heap}
theorem Cx.Ok.nofr (ok : X.Ok) {b : Addr} {o : Obj} (e : X.base.get? b = some o) : b ∉ X.fs := fun hb => by
  have := (ok.funs.mem hb).1
  rw [e] at this; cases this
theorem Inv.bs (I : Inv X pins σ H s) : ∀ b o, X.base.get? b = some o → s.heap.get? b = some o ∧ H b = none := fun b o e =>
  ⟨I.base.keep b o (I.ok.bs b o e).1 (I.ok.bs b o e).2 (I.ok.nofr e) (I.ok.noex b o e), I.base.free b o (I.ok.bs b o e).1 (I.ok.bs b o e).2 (I.ok.noex b o e)⟩
theorem Inv.bk (I : Inv X pins σ H s) : ∀ b o, X.base.get? b = some o → s.heap.get? b = some o := fun b o e => (I.bs b o e).1
theorem Inv.mod (I : Inv X pins σ H s) : Mod X.K X.mg X.base := I.ok.mod
theorem Inv.kIn (I : Inv X pins σ H s) : X.K.In s.heap := I.ok.mod.kin.keeps I.bk
theorem Inv.lt (I : Inv X pins σ H s) : X.env.locals < s.heap.objs.size := let ⟨_, hn, _⟩ := I.loc; hn.lt
theorem Inv.sz (I : Inv X pins σ H s) : X.s₀.heap.objs.size ≤ s.heap.objs.size := Nat.le_trans I.ok.above (Nat.le_of_lt I.lt)
theorem Inv.nofs (I : Inv X pins σ H s) {a : Addr} (h : s.heap.objs.size ≤ a) : a ∉ X.fs := fun hb => by
  obtain ⟨_, o, ho, _⟩ := I.ok.funs.mem hb
  exact absurd (Nat.lt_of_lt_of_le (Heap.lt_size ho) (Nat.le_trans I.sz h)) (Nat.lt_irrefl _)
theorem Inv.cne (I : Inv X pins σ H s) : ∀ x c, X.env.cells.lookup x = some c → c ≠ X.env.locals := fun x c e z => by
  obtain ⟨v, o, ho, hd⟩ := I.cell x c e
  obtain ⟨m, ⟨o', es, ep, ho', hd', _⟩, _⟩ := I.loc
  rw [z, ho'] at ho; cases ho; rw [hd'] at hd; cases hd
theorem Inv.funs (I : Inv X pins σ H s) : s.heap.FunFrames X.base X.outer := by
  have all : ∀ (l : List Env), (∀ b ∈ frs l, b ∈ X.fs) → X.s₀.heap.FunFrames X.base l → s.heap.FunFrames X.base l := by
    intro l
    induction l with
    | nil => intro _ _; trivial
    | cons env r ih =>
      intro hs hl
      obtain ⟨hk, ⟨L, o, hf, hn, ho, hd⟩, hr⟩ := hl
      have hL : L ∈ X.fs := hs L (by unfold frs; rw [List.filterMap_cons, hf]; exact List.mem_cons_self)
      obtain ⟨sl, e⟩ := I.base.slot L o ho (I.ok.frf L hL) hL fun z => I.ok.exfs L z hL
      exact ⟨hk, ⟨L, _, hf, hn, e, hd⟩, ih (fun b hb => hs b (by unfold frs; rw [List.filterMap_cons, hf]; exact List.mem_cons_of_mem _ hb)) hr⟩
  exact all X.outer (fun _ hb => hb) I.ok.funs
theorem Inv.stack (I : Inv X pins σ H s) : s.heap.FunFrames X.base X.stack := by
  rcases I.ok.stk with e | ⟨e, hf⟩
  · rw [e]; exact I.funs
  · rw [e]
    obtain ⟨m, hn, _⟩ := I.loc
    refine .cons (by rw [I.ok.kind]; decide) hf hn ?_ I.funs
    exact Heap.get?_none_of_le (Nat.le_trans I.ok.bsz I.ok.above)
theorem Inv.stkSub (I : Inv X pins σ H s) : ∀ b ∈ frs X.stack, b ∈ X.env.locals :: X.fs := fun b hb => by
  rcases I.ok.stk with e | ⟨e, hf⟩
  · rw [e] at hb; exact List.mem_cons_of_mem _ hb
  · rw [e] at hb
    unfold frs at hb
    rw [List.filterMap_cons, hf] at hb
    exact hb
theorem Inv.stkFree (I : Inv X pins σ H s) : ∀ b ∈ frs X.stack, H b = none := fun b hb => by
  rcases List.mem_cons.mp (I.stkSub b hb) with e | hb
  · rw [e]; exact I.free
  · obtain ⟨_, o, ho, _⟩ := I.ok.funs.mem hb
    exact I.base.free b o ho (I.ok.frf b hb) fun z => I.ok.exfs b z hb
theorem Inv.step {g' : Array GenState} {t' : Nat} {d' : Drawn} {ch : List Addr} (I : Inv X pins σ H s)
    (hch : ∀ b ∈ ch, (b ∈ X.ex ∨ X.s₀.heap.objs.size ≤ b) ∧ b ≠ X.env.locals ∧ (∀ x c, X.env.cells.lookup x = some c → c ≠ b) ∧ ∀ p ∈ X.pn ++ pins, p.1 ≠ b)
    (keep : ∀ b o, b ≠ X.env.locals → b ∉ X.fs → b ∉ ch → s.heap.get? b = some o → H b = none → h'.get? b = some o)
    (slot : ∀ b o, b ≠ X.env.locals → b ∈ X.fs → b ∉ ch → s.heap.get? b = some o → H b = none → ∃ sl, h'.get? b = some { o with slots := sl }) (free : ∀ b o, b ∉ ch → s.heap.get? b = some o → H b = none → H' b = none)
    (there : ∀ b o, b ∉ ch → s.heap.get? b = some o → ∃ o', h'.get? b = some o')
    (tups : ∀ b xs, H b = some (.tup xs) → H' b = some (.tup xs)) (frzs : ∀ b o u, H b = some (.frz o u) → H' b = some (.frz o u)) (tbls : ∀ b ps, H b = some (.tbl ps) → ∃ more, H' b = some (.tbl (ps ++ more)))
    (ns : ∀ m, s.heap.Ns X.env.locals m → h'.Ns X.env.locals m) (hok : HOk X.prog X.w H' h') (hg : AllBare g') :
    Inv X pins σ H' { s with heap := h', gens := g', drawn := d', toks := t' } := by
  have neL : ∀ b o, X.s₀.heap.get? b = some o → b ≠ X.env.locals := fun b o e => Nat.ne_of_lt (Nat.lt_of_lt_of_le (Heap.lt_size e) I.ok.above)
  have neC : ∀ b o, X.s₀.heap.get? b = some o → b ∉ X.ex → b ∉ ch := fun b o e hx hb => by
    rcases (hch b hb).1 with z | z
    · exact hx z
    · exact absurd (Nat.lt_of_lt_of_le (Heap.lt_size e) z) (Nat.lt_irrefl _)
  have cellK : ∀ x c, X.env.cells.lookup x = some c → ∀ v, s.heap.IsCell c v → h'.IsCell c v := fun x c e v ⟨o, ho, hd⟩ => by
    have nch : c ∉ ch := fun z => (hch c z).2.2.1 x c e rfl
    by_cases hc : c ∈ X.fs
    · obtain ⟨sl, q⟩ := slot c o (I.cne x c e) hc nch ho (I.freeC x c e)
      exact ⟨_, q, hd⟩
    · exact ⟨o, keep c o (I.cne x c e) hc nch ho (I.freeC x c e), hd⟩
  refine ⟨I.ok, I.os, hg, ⟨fun b o e n hb hx => ?_, fun b o e n hb hx => ?_, fun b o e n hx => ?_, fun b o e hx => ?_, fun b xs e => tups b xs (I.base.tups b xs e), fun b o xs e => frzs b o xs (I.base.frzs b o xs e), fun b ps e => ?_⟩, ?_, fun x c e => ?_, ?_, fun x c e => ?_, fun p hp => ?_, hok, I.len⟩
  · exact keep b o (neL b o e) hb (neC b o e hx) (I.base.keep b o e n hb hx) (I.base.free b o e n hx)
  · obtain ⟨sl, e1⟩ := I.base.slot b o e n hb hx
    obtain ⟨sl', e2⟩ := slot b _ (neL b o e) hb (neC b o e hx) e1 (I.base.free b o e n hx)
    exact ⟨sl', e2⟩
  · obtain ⟨o', e1⟩ := I.base.there b o e hx
    exact free b o' (neC b o e hx) e1 (I.base.free b o e n hx)
  · obtain ⟨o', e1⟩ := I.base.there b o e hx
    exact there b o' (neC b o e hx) e1
  · obtain ⟨m1, e1⟩ := I.base.tbls b ps e
    obtain ⟨m2, e2⟩ := tbls b _ e1
    exact ⟨m1 ++ m2, by rw [e2, Array.append_assoc]⟩
  · obtain ⟨m, hn, hl⟩ := I.loc
    refine ⟨m, ns m hn, fun i x v e1 e2 e3 => ?_⟩
    obtain ⟨u, r, l⟩ := hl i x v e1 e2 e3
    refine ⟨u, r, ?_⟩
    rcases l with l | ⟨k, c, e, z⟩
    · exact .inl l
    · exact .inr ⟨k, c, e, cellK x c e _ z⟩
  · obtain ⟨v, z⟩ := I.cell x c e
    exact ⟨v, cellK x c e v z⟩
  · obtain ⟨m, ⟨o, _, _, ho, _⟩, _⟩ := I.loc
    exact free _ o (fun z => (hch _ z).2.1 rfl) ho I.free
  · obtain ⟨v, o, ho, hd⟩ := I.cell x c e
    exact free c o (fun z => (hch c z).2.2.1 x c e rfl) ho (I.freeC x c e)
  · obtain ⟨e, n, ne, nf, d⟩ := I.pin p hp
    have nch : p.1 ∉ ch := fun z => (hch p.1 z).2.2.2 p hp rfl
    exact ⟨keep p.1 p.2 ne nf nch e n, free p.1 p.2 nch e n, ne, nf, d⟩
theorem Inv.un {t' : Nat} (I : Inv X pins σ H s) (u : Un X.fs [] H H' s.heap h') (hok : HOk X.prog X.w H' h') : Inv X pins σ H' { s with heap := h', toks := t' } := by
  obtain ⟨m, ⟨o, es, ep, ho, r⟩, _⟩ := id I.loc
  obtain ⟨sl, hL⟩ := u.any ho I.free (by simp)
  exact I.step (g' := s.gens) (d' := s.drawn) (ch := []) (fun _ z => nomatch z) (fun b o _ hb _ e n => u.keep b o e n hb (by simp)) (fun b o _ hb _ e n => u.slot b o e n hb (by simp)) (fun b o _ e n => u.free b o e n (by simp)) (fun b o _ e => u.there b o e (by simp)) u.tups u.frzs u.tbls (fun m' hm => by
    obtain ⟨o', es', ep', ho', r'⟩ := hm
    rw [ho] at ho'; cases ho'
    exact ⟨_, es', ep', hL, r'⟩) hok I.bare
theorem Inv.call {g' : Array GenState} {t' : Nat} {d' : Drawn} {ch : List Addr} (I : Inv X pins σ H s) (u : Un (frs X.stack) ch H H' s.heap h') (hok : HOk X.prog X.w H' h') (hg : AllBare g')
    (hch : ∀ b ∈ ch, (b ∈ X.ex ∨ X.s₀.heap.objs.size ≤ b) ∧ b ≠ X.env.locals ∧ (∀ x c, X.env.cells.lookup x = some c → c ≠ b) ∧ ∀ p ∈ X.pn ++ pins, p.1 ≠ b) :
    Inv X pins σ H' { s with heap := h', gens := g', drawn := d', toks := t' } := by
  obtain ⟨m, ⟨o, es, ep, ho, r⟩, _⟩ := id I.loc
  obtain ⟨sl, hL⟩ := u.any ho I.free fun z => (hch _ z).2.1 rfl
  exact I.step (ch := ch) hch (fun b o hL hb hc e n => u.keep b o e n (fun z => (List.mem_cons.mp (I.stkSub b z)).elim hL hb) hc) (fun b o _ _ hc e n => u.any e n hc) (fun b o hc e n => u.free b o e n hc) (fun b o hc e => u.there b o e hc) u.tups u.frzs u.tbls (fun m' hm => by
    obtain ⟨o', es', ep', ho', r'⟩ := hm
    rw [ho] at ho'; cases ho'
    exact ⟨_, es', ep', hL, r'⟩) hok hg
theorem Inv.turned {t' : Nat} {it : Addr} (I : Inv X pins σ H s) (k : ∀ b o, b ≠ it → s.heap.get? b = some o → h'.get? b = some o) (hn : H it = none) (hL : it ≠ X.env.locals)
    (h1 : it ∈ X.ex ∨ X.s₀.heap.objs.size ≤ it) (h2 : ∀ x c, X.env.cells.lookup x = some c → c ≠ it) (h3 : ∀ p ∈ X.pn ++ pins, p.1 ≠ it) : Inv X pins σ H { s with heap := h', toks := t' } := by
  have nit : ∀ b u, H b = some u → b ≠ it := fun b u e z => by rw [z, hn] at e; cases e
  refine I.step (g' := s.gens) (d' := s.drawn) (ch := [it]) (fun b hb => ?_) (fun b o _ _ hc e _ => k b o (fun z => hc (by simp [z])) e) (fun b o _ _ hc e _ => ⟨o.slots, k b o (fun z => hc (by simp [z])) e⟩) (fun _ _ _ _ n => n)
    (fun b o hc e => ⟨o, k b o (fun z => hc (by simp [z])) e⟩) (fun _ _ e => e) (fun _ _ _ e => e) (fun b ps e => ⟨#[], by rw [e]; simp⟩) (fun m hm => ?_) (fun b u e => ?_) I.bare
  · have e : b = it := by simpa using hb
    subst e
    exact ⟨h1, hL, h2, h3⟩
  · obtain ⟨o, es, ep, ho, r⟩ := hm
    exact ⟨o, es, ep, k _ o (Ne.symm hL) ho, r⟩
  · refine (I.hok b u e).stay (fun c v hc q => k c v ?_ q) (fun _ q => q) fun _ _ q => q
    rcases hc with z | z
    · rw [z]; exact nit b u e
    · exact nit c _ z
theorem Inv.tok (I : Inv X pins σ H s) (t : Nat) : Inv X pins σ H { s with toks := t } := I.un (h' := s.heap) (t' := t) Un.refl I.hok
theorem Inv.kept {t' : Nat} (I : Inv X pins σ H s) (k : ∀ b u, s.heap.get? b = some u → h'.get? b = some u) : Inv X pins σ H { s with heap := h', toks := t' } := I.un (Un.kept k) (I.hok.kept k)
theorem Inv.laid {a : Addr} {o : HO} {t' : Nat} (I : Inv X pins σ H s) (k : ∀ b u, s.heap.get? b = some u → h'.get? b = some u) (hp : s.heap.objs.size ≤ a) (new : ObjOk X.prog X.w (upd H a o) h' a o) :
    Inv X pins σ (upd H a o) { s with heap := h', toks := t' } := I.un (Un.laid k hp (I.hok.fresh hp)) (I.hok.laid k hp new)
theorem Inv.write {x e : Addr} {o : HO} {t' : Nat} (I : Inv X pins σ H s) (mu : Mut (H x)) (he : e = x ∨ H e = some (.own x)) (k : ∀ b u, b ≠ e → s.heap.get? b = some u → h'.get? b = some u) (heo : ∃ u, h'.get? e = some u)
    (new : ObjOk X.prog X.w (upd H x o) h' x o) : Inv X pins σ (upd H x o) { s with heap := h', toks := t' } := I.un (Un.write mu he k heo) (I.hok.write mu he k heo new)
theorem Inv.pins_of {pins' : List (Addr × Obj)} (I : Inv X pins σ H s) (h : ∀ p ∈ pins', s.heap.get? p.1 = some p.2 ∧ H p.1 = none ∧ p.1 ≠ X.env.locals ∧ p.1 ∉ X.fs ∧ ∀ v, p.2.data ≠ .cell v) : Inv X pins' σ H s :=
  ⟨I.ok, I.os, I.bare, I.base, I.loc, I.cell, I.free, I.freeC, fun p hp => (List.mem_append.mp hp).elim (fun z => I.pin p (List.mem_append_left _ z)) (h p), I.hok, I.len⟩
theorem nodup_ix {N : List Str} (hN : N.Nodup) {i j : Nat} {x : Str} (a : N[i]? = some x) (b : N[j]? = some x) : i = j := by
  obtain ⟨h1, e1⟩ := List.getElem?_eq_some_iff.mp a
  obtain ⟨h2, e2⟩ := List.getElem?_eq_some_iff.mp b
  exact (List.getElem_inj hN).mp (e1.trans e2.symm)
theorem store_ok2 {M : Model} {A : Around} {E : Value → Shared → Prop} {i : Nat} {x : Str} {v : V} {u : Value} {Q : Unit → Shared → Prop} (I : Inv X pins σ H s) (hN : X.N.Nodup) (hi : X.N[i]? = some x) (hx : Loc X.env.scope x) (r : RelV v u)
    (h : ∀ s', Inv X pins (σ.set i (some v)) H s' → (∃ a, Heap.SameBut a s.heap s'.heap ∧ (a = X.env.locals ∨ X.env.cells.lookup x = some a)) → Q () s') (hf : X.fn x = true ∨ X.env.scope.names.lookup x = some .local := by first | exact .inl rfl | exact .inr rfl | assumption) : wpAny M A (storeName X.env x u) Q E s := by
  obtain ⟨m, hn, hl⟩ := id I.loc
  have hcls : (X.env.scope.kind == .class || (X.env.scope.kind == .module && X.env.locals != X.env.globals)) = false := by rw [I.ok.kind]; rfl
  have hiσ : i < σ.length := by rw [I.len]; exact (List.getElem?_eq_some_iff.mp hi).1
  have cne := I.cne
  have tracked : ∀ {a : Addr} {h' : Heap}, (∃ o, s.heap.get? a = some o ∧ H a = none) → Heap.SameBut a s.heap h' → HOk X.prog X.w H h' := fun {a h'} ha hs b ob e => by
    obtain ⟨_, _, hfree⟩ := ha
    refine (I.hok b ob e).stay (fun c w' hc q => (hs.2 c ?_).trans q) (fun _ q => q) fun _ _ q => q
    rintro rfl
    rcases hc with rfl | hc
    · rw [hfree] at e; cases e
    · rw [hfree] at hc; cases hc
  rcases hx with hk | hk
  · refine wpAny_storeName_local hk hn (fun h' hn' hs => ?_) hcls
    obtain ⟨oL, _, _, hoL, _⟩ := id hn
    refine h _ ⟨I.ok, I.os, I.bare, ⟨fun b o e n hb hx => ?_, fun b o e n hb hx => ?_, I.base.free, fun b o e hx => ?_, I.base.tups, I.base.frzs, I.base.tbls⟩, ⟨_, hn', fun j y v' e1 e2 e3 => ?_⟩, fun y c e => ?_, I.free, I.freeC, fun p hp => ?_, tracked ⟨oL, hoL, I.free⟩ hs, by simpa using I.len⟩ ⟨_, hs, .inl rfl⟩
    · exact (hs.2 b (Nat.ne_of_lt (Nat.lt_of_lt_of_le (Heap.lt_size e) I.ok.above))).trans (I.base.keep b o e n hb hx)
    · obtain ⟨sl, e1⟩ := I.base.slot b o e n hb hx
      exact ⟨sl, (hs.2 b (Nat.ne_of_lt (Nat.lt_of_lt_of_le (Heap.lt_size e) I.ok.above))).trans e1⟩
    · obtain ⟨o', e1⟩ := I.base.there b o e hx
      exact ⟨o', (hs.2 b (Nat.ne_of_lt (Nat.lt_of_lt_of_le (Heap.lt_size e) I.ok.above))).trans e1⟩
    · by_cases hj : j = i
      · subst hj
        rw [hi] at e1; cases e1
        rw [List.getElem?_set_self hiσ] at e2
        cases e2
        exact ⟨u, r, .inl ⟨hk, by simp⟩⟩
      · rw [List.getElem?_set_ne (Ne.symm hj)] at e2
        obtain ⟨u', r', q⟩ := hl j y v' e1 e2 e3
        refine ⟨u', r', ?_⟩
        rcases q with ⟨k, e⟩ | ⟨k, c, e, z⟩
        · refine .inl ⟨k, ?_⟩
          have : y ≠ x := fun e => hj (nodup_ix hN e1 (e ▸ hi))
          simp [this, e]
        · exact .inr ⟨k, c, e, z.sameBut hs (cne y c e)⟩
    · obtain ⟨w', z⟩ := I.cell y c e
      exact ⟨w', z.sameBut hs (cne y c e)⟩
    · obtain ⟨e, n, ne, nf, d⟩ := I.pin p hp
      exact ⟨(hs.2 p.1 ne).trans e, n, ne, nf, d⟩
  · have hfn : X.fn x = true := by
      rcases hf with z | z
      · exact z
      · rw [z] at hk; cases hk
    obtain ⟨c, hc⟩ := I.ok.has x (.inl hk)
    obtain ⟨w', z⟩ := I.cell x c hc
    refine wpAny_storeName_cell I.ok.kind hk hc z (fun h' hc' hs => ?_)
    obtain ⟨oc, hoc, hocd⟩ := id z
    refine h { s with heap := h' } ⟨I.ok, I.os, I.bare, ⟨fun b o e n hb hx => ?_, fun b o e n hb hx => ?_, I.base.free, fun b o e hx => ?_, I.base.tups, I.base.frzs, I.base.tbls⟩, ⟨m, hn.sameBut hs (Ne.symm (cne x c hc)), fun j y v' e1 e2 e3 => ?_⟩, fun y c' e => ?_, I.free, I.freeC, fun p hp => ?_, tracked ⟨oc, hoc, I.freeC x c hc⟩ hs, by simpa using I.len⟩ ⟨c, hs, .inr hc⟩
    · exact (hs.2 b (Nat.ne_of_lt (Nat.lt_of_lt_of_le (Heap.lt_size e) (I.ok.cab x c hfn hc)))).trans (I.base.keep b o e n hb hx)
    · obtain ⟨sl, e1⟩ := I.base.slot b o e n hb hx
      exact ⟨sl, (hs.2 b (Nat.ne_of_lt (Nat.lt_of_lt_of_le (Heap.lt_size e) (I.ok.cab x c hfn hc)))).trans e1⟩
    · obtain ⟨o', e1⟩ := I.base.there b o e hx
      exact ⟨o', (hs.2 b (Nat.ne_of_lt (Nat.lt_of_lt_of_le (Heap.lt_size e) (I.ok.cab x c hfn hc)))).trans e1⟩
    · by_cases hj : j = i
      · subst hj
        rw [hi] at e1; cases e1
        rw [List.getElem?_set_self hiσ] at e2
        cases e2
        exact ⟨u, r, .inr ⟨.inl hk, c, hc, hc'⟩⟩
      · rw [List.getElem?_set_ne (Ne.symm hj)] at e2
        obtain ⟨u', r', q⟩ := hl j y v' e1 e2 e3
        refine ⟨u', r', ?_⟩
        rcases q with q | ⟨k, c', e, z'⟩
        · exact .inl q
        · refine .inr ⟨k, c', e, z'.sameBut hs ?_⟩
          rintro rfl
          exact hj (nodup_ix hN e1 (I.ok.inj _ _ _ e hc ▸ hi))
    · by_cases hcc : c' = c
      · subst hcc; exact ⟨_, hc'⟩
      · obtain ⟨w2, z2⟩ := I.cell y c' e
        exact ⟨w2, z2.sameBut hs hcc⟩
    · obtain ⟨e, n, ne, nf, d⟩ := I.pin p hp
      refine ⟨(hs.2 p.1 ?_).trans e, n, ne, nf, d⟩
      intro q
      rw [q, hoc] at e
      have q' : oc = p.2 := Option.some.inj e
      exact d w' (by rw [← q']; exact hocd)
theorem store_ok {M : Model} {A : Around} {E : Value → Shared → Prop} {i : Nat} {x : Str} {v : V} {u : Value} {Q : Unit → Shared → Prop} (I : Inv X pins σ H s) (hN : X.N.Nodup) (hi : X.N[i]? = some x) (hx : Loc X.env.scope x) (r : RelV v u)
    (h : ∀ s', Inv X pins (σ.set i (some v)) H s' → Q () s') (hf : X.fn x = true ∨ X.env.scope.names.lookup x = some .local := by first | exact .inl rfl | exact .inr rfl | assumption) : wpAny M A (storeName X.env x u) Q E s :=
  store_ok2 I hN hi hx r (fun s' I' _ => h s' I') hf
theorem Inv.call' {s' : Shared} {ch : List Addr} (I : Inv X pins σ H s) (ho : s'.os = s.os) (u : Un (frs X.stack) ch H H' s.heap s'.heap) (hok : HOk X.prog X.w H' s'.heap) (hg : AllBare s'.gens)
    (hch : ∀ b ∈ ch, (b ∈ X.ex ∨ X.s₀.heap.objs.size ≤ b) ∧ b ≠ X.env.locals ∧ (∀ x c, X.env.cells.lookup x = some c → c ≠ b) ∧ ∀ p ∈ X.pn ++ pins, p.1 ≠ b) : Inv X pins σ H' s' := by
  obtain ⟨h', g', d', t', o'⟩ := s'
  have e : o' = s.os := ho
  subst e
  exact I.call (g' := g') (t' := t') (d' := d') u hok hg hch
end
abbrev XK := Value → Option Addr → Hp → Prop
abbrev St := List (Option V)
abbrev VK := V → Hp → Prop
abbrev TE := St → Hp → VK → Prop
abbrev TT := St → Hp → (Bool → Hp → Prop) → Prop
abbrev TA := St → Hp → (List V → Hp → Prop) → Prop
structure Ends where
  nx : St → Hp → Prop
  rt : VK
  bk : St → Hp → Prop := fun _ _ => False
  ct : St → Hp → Prop := fun _ _ => False
abbrev TS := Ends → St → Hp → Prop
def EP (X : Cx) (pins : List (Addr × Obj)) (σ : St) (Q : VK) (u : Value) (s' : Shared) : Prop := ∃ v H', Inv X pins σ H' s' ∧ RelV v u ∧ Q v H'
def TP (X : Cx) (pins : List (Addr × Obj)) (σ : St) (Q : Bool → Hp → Prop) (b : Bool) (s' : Shared) : Prop := ∃ H', Inv X pins σ H' s' ∧ Q b H'
def AP (X : Cx) (pins : List (Addr × Obj)) (σ : St) (Q : List V → Hp → Prop) (us : List Value) (s' : Shared) : Prop := ∃ vs H', Inv X pins σ H' s' ∧ Vals vs us ∧ Q vs H'
def SP (X : Cx) (pins : List (Addr × Obj)) (D : Ends) (f : Flow) (s' : Shared) : Prop :=
  match f with
  | .next => ∃ σ' H', Inv X pins σ' H' s' ∧ D.nx σ' H'
  | .brk => ∃ σ' H', Inv X pins σ' H' s' ∧ D.bk σ' H'
  | .cont => ∃ σ' H', Inv X pins σ' H' s' ∧ D.ct σ' H'
  | .ret u => ∃ v σ' H', Inv X pins σ' H' s' ∧ RelV v u ∧ D.rt v H'
def PE (X : Cx) (e : Expr) (t : TE) : Prop :=
  ∀ (pins : List (Addr × Obj)) (s : Shared) (σ : St) (H : Hp) (Q : VK), Inv X pins σ H s → t σ H Q → wpAny (model X.prog X.w) X.A (eval e X.env) (EP X pins σ Q) X.xe s
def PT (X : Cx) (e : Expr) (t : TT) : Prop :=
  ∀ (pins : List (Addr × Obj)) (s : Shared) (σ : St) (H : Hp) (Q : Bool → Hp → Prop), Inv X pins σ H s → t σ H Q → wpAny (model X.prog X.w) X.A (isTrue e X.env (eval e X.env)) (TP X pins σ Q) X.xe s
def PW (X : Cx) (e : Expr) (t : TT) : Prop :=
  ∀ (whole : Sem Value) (pins : List (Addr × Obj)) (s : Shared) (σ : St) (H : Hp) (Q : Bool → Hp → Prop), Inv X pins σ H s → t σ H Q → wpAny (model X.prog X.w) X.A (isTrue e X.env whole) (TP X pins σ Q) X.xe s
theorem PW.pt {X : Cx} {e : Expr} {t : TT} (h : PW X e t) : PT X e t := h _
def PA (X : Cx) (es : List Expr) (t : TA) : Prop :=
  ∀ (pos : Pos) (pins : List (Addr × Obj)) (s : Shared) (σ : St) (H : Hp) (Q : List V → Hp → Prop), Inv X pins σ H s → t σ H Q → wpAny (model X.prog X.w) X.A (spliced (backTo pos (starEach es X.env))) (AP X pins σ Q) X.xe s
def PS (X : Cx) (st : Stmt) (t : TS) : Prop :=
  ∀ (pins : List (Addr × Obj)) (s : Shared) (σ : St) (H : Hp) (D : Ends), Inv X pins σ H s → t D σ H → wpAny (model X.prog X.w) X.A (exec st X.env) (SP X pins D) X.xe s
def PSs (X : Cx) (st : List Stmt) (t : TS) : Prop :=
  ∀ (pins : List (Addr × Obj)) (s : Shared) (σ : St) (H : Hp) (D : Ends), Inv X pins σ H s → t D σ H → wpAny (model X.prog X.w) X.A (execs st X.env) (SP X pins D) X.xe s
theorem thn {α : Type} {t : Sem α} {Q Q' : α → Shared → Prop} {M : Model} {A : Around} {E : Value → Shared → Prop} {s : Shared} (h : wpAny M A t Q E s) (hQ : ∀ a s, Q a s → Q' a s) : wpAny M A t Q' E s := wpAny_mono h hQ fun _ _ x => x
end L2
namespace L2
open PySem PySem.Spec PyProof.Rows
section
variable {X : Cx}
def tVar (i : Nat) : TE := fun σ H Q => ∃ v, σ[i]? = some (some v) ∧ Q v H
def tC (v : V) : TE := fun _ H Q => Q v H
theorem pe_var {i : Nat} {x : Str} {pos : Pos} (hN : X.N[i]? = some x) (hv : Vis X.env.scope x) (hd : (x == ("__debug__" : Str)) = false := by decide) (hcd : (x == ("__classdict__" : Str)) = false := by decide) : PE X (.Name x pos) (tVar i) := by
  intro pins s σ H Q I h
  obtain ⟨v, e, h⟩ := h
  obtain ⟨m, hn, hl⟩ := I.loc
  obtain ⟨u, r, l⟩ := hl i x v hN e hv
  have fin : EP X pins σ Q u s := ⟨v, H, I, r, h⟩
  rcases l with ⟨hk, hm⟩ | ⟨hk, c, hc, hcell⟩
  · exact wpAny_Name (wpAny_loadName_local I.ok.kind hk hn hm fin) hd
  · rcases hk with hk | hk
    · exact wpAny_Name (wpAny_loadName_cell I.ok.kind hk hc hcell fin) hd
    · exact wpAny_Name (wpAny_loadName_free I.ok.kind hk hc hcell fin hcd) hd
theorem pe_int {i j pos} : PE X (.Constant (.int i) j pos) (tC (.int i)) := fun _ _ _ H _ I h => wpAny_Constant_int ⟨.int i, H, I.tok _, ⟨_, rfl⟩, h⟩
theorem pe_bl {b j pos} : PE X (.Constant (.bool b) j pos) (tC (.bl b)) := fun _ _ _ H _ I h => Constant_bool ⟨.bl b, H, I, rfl, h⟩
theorem pe_non {j pos} : PE X (.Constant .none j pos) (tC .non) := fun _ _ _ H _ I h => Constant_none ⟨.non, H, I, rfl, h⟩
theorem pe_str {x j pos} : PE X (.Constant (.str x) j pos) (tC (.str x)) := fun _ _ _ H _ I h => Calls.Constant_str ⟨.str x, H, I.tok _, ⟨_, rfl⟩, h⟩
def Gl (X : Cx) (x : Str) : Prop := X.env.kindOf x = some .globalImplicit
theorem ld_glob {E : Value → Shared → Prop} {pins : List (Addr × Obj)} {s : Shared} {σ : St} {H : Hp} {x : Str} {u : Value} {pos : Pos} {Q : Value → Shared → Prop} (I : Inv X pins σ H s) (hg : Gl X x) (hm : X.mg x = some u) (h : Q u s)
    (hd : (x == ("__debug__" : Str)) = false := by decide) : wpAny (model X.prog X.w) X.A (eval (.Name x pos) X.env) Q E s :=
  Calls.Name_function_global I.ok.kind hg (Calls.loadGlobal_global (by rw [I.ok.glob]; exact I.mod.glob.keeps I.bk) hm h) hd
theorem ld_blt {E : Value → Shared → Prop} {pins : List (Addr × Obj)} {s : Shared} {σ : St} {H : Hp} {x : Str} {u : Value} {pos : Pos} {Q : Value → Shared → Prop} (I : Inv X pins σ H s) (hg : Gl X x) (hm : X.mg x = none) (hv : bootBuiltins x = some u) (h : Q u s)
    (hn : x ≠ "__name__" := by decide) (hd : (x == ("__debug__" : Str)) = false := by decide) : wpAny (model X.prog X.w) X.A (eval (.Name x pos) X.env) Q E s := by
  obtain ⟨mb, h1, h2⟩ := I.mod.blt
  exact Calls.Name_function_global I.ok.kind hg (Calls.loadGlobal_builtin (by rw [I.ok.glob]; exact I.mod.glob.keeps I.bk) hm (by rw [I.ok.blt]; exact h1.keeps I.bk) ((h2 x hn).trans hv) h) hd
theorem pe_glob {x : Str} {v : V} {u : Value} {pos : Pos} (hg : Gl X x) (hm : X.mg x = some u) (r : RelV v u) (hd : (x == ("__debug__" : Str)) = false := by decide) : PE X (.Name x pos) (tC v) :=
  fun _ _ _ H _ I h => ld_glob I hg hm ⟨v, H, I, r, h⟩ hd
theorem pe_bltn {x : Str} {v : V} {u : Value} {pos : Pos} (hg : Gl X x) (hm : X.mg x = none) (hv : bootBuiltins x = some u) (r : RelV v u) (hn : x ≠ "__name__" := by decide) (hd : (x == ("__debug__" : Str)) = false := by decide) : PE X (.Name x pos) (tC v) :=
  fun _ _ _ H _ I h => ld_blt I hg hm hv ⟨v, H, I, r, h⟩ hn hd
variable {a b : Expr} {ta tb : TE} {pos : Pos}
def PC (X : Cx) (op : CmpOp) (a b : Expr) (t : TE) : Prop :=
  ∀ (pins : List (Addr × Obj)) (s : Shared) (σ : St) (H : Hp) (Q : VK), Inv X pins σ H s → t σ H Q →
    wpAny (model X.prog X.w) X.A (eval a X.env) (fun v s₁ => wpAny (model X.prog X.w) X.A (eval b X.env) (fun u s₂ => wpAny (model X.prog X.w) X.A (compareOp op v u) (EP X pins σ Q) X.xe s₂) X.xe s₁) X.xe s
def tB (t : TE) : TT := fun σ H Q => t σ H fun x H1 => ∃ c, x = .bl c ∧ Q c H1
theorem pe_cmp {op : CmpOp} {t : TE} (h : PC X op a b t) (h1 : behindInMarks op b = false := by first | exact nobehind _ (by decide) (by decide) | rfl) : PE X (.Compare a [op] [b] pos) t := fun pins s σ H Q I hw => wpAny_Compare1 (h pins s σ H Q I hw) h1
theorem pt_cmp {op : CmpOp} {t : TE} (h : PC X op a b t) (h1 : behindInMarks op b = false := by first | exact nobehind _ (by decide) (by decide) | rfl) : PT X (.Compare a [op] [b] pos) (tB t) := by
  intro pins s σ H Q I hw
  refine wpAny_isTrue_Compare1 (thn (h pins s σ H _ I hw) fun v s1 h1 => thn h1 fun u s2 h2 => thn h2 fun c s3 ⟨x, H1, I1, r1, q1⟩ => ?_) h1
  obtain ⟨d, rfl, q⟩ := q1
  cases r1
  exact wpAny_truthy_bool ⟨H1, I1, q⟩
theorem pt_val {e : Expr} {t : TE} (h : PE X e t) (he : ∀ whole, isTrue e X.env whole = (do let v ← whole; standAt e.pos; holding [v] (truthy v)) := by intro _; rfl) : PT X e (tB t) := by
  intro pins s σ H Q I hw
  refine isTrue_plain (thn (h pins s σ H _ I hw) fun v s1 ⟨x, H1, I1, r1, q1⟩ => ?_) (he _)
  obtain ⟨d, rfl, q⟩ := q1
  cases r1
  exact wpAny_truthy_bool ⟨H1, I1, q⟩
variable {tA tB' : TT} {rest : List Expr}
def tAnd (t u : TT) : TT := fun σ H Q => t σ H fun c H1 => if c = true then u σ H1 Q else Q false H1
def tOr (t u : TT) : TT := fun σ H Q => t σ H fun c H1 => if c = true then Q true H1 else u σ H1 Q
def tNot (t : TT) : TT := fun σ H Q => t σ H fun c H1 => Q (!c) H1
theorem pw_and1 (ha : PT X a tA) : PW X (.BoolOp .And [a] pos) tA := by
  intro wh pins s σ H Q I h
  refine isTrue_and (thn (ha pins s σ H Q I h) fun c s1 e => ?_)
  cases c with
  | true => exact isTrue_and_nil e
  | false => exact e
theorem pw_or1 (ha : PT X a tA) : PW X (.BoolOp .Or [a] pos) tA := by
  intro wh pins s σ H Q I h
  refine isTrue_or (thn (ha pins s σ H Q I h) fun c s1 e => ?_)
  cases c with
  | false => exact isTrue_or_nil e
  | true => exact e
theorem pw_and (ha : PT X a tA) (hb : PW X (.BoolOp .And (b :: rest) pos) tB') : PW X (.BoolOp .And (a :: b :: rest) pos) (tAnd tA tB') := by
  intro wh pins s σ H Q I h
  refine isTrue_and (thn (ha pins s σ H _ I h) fun c s1 ⟨H1, I1, q1⟩ => ?_)
  cases c with
  | true => exact hb wh pins s1 σ H1 Q I1 q1
  | false => exact ⟨H1, I1, q1⟩
theorem pw_or (ha : PT X a tA) (hb : PW X (.BoolOp .Or (b :: rest) pos) tB') : PW X (.BoolOp .Or (a :: b :: rest) pos) (tOr tA tB') := by
  intro wh pins s σ H Q I h
  refine isTrue_or (thn (ha pins s σ H _ I h) fun c s1 ⟨H1, I1, q1⟩ => ?_)
  cases c with
  | true => exact ⟨H1, I1, q1⟩
  | false => exact hb wh pins s1 σ H1 Q I1 q1
theorem pt_not (ha : PT X a tA) : PT X (.UnaryOp .Not a pos) (tNot tA) := by
  intro pins s σ H Q I h
  exact isTrue_not (ha pins s σ H (fun c H1 => Q (!c) H1) I h)
def tAndV (ta tb : TE) : TE := fun σ H Q => ta σ H fun x H1 => ∃ c, x = .bl c ∧ if c = true then tb σ H1 Q else Q (.bl false) H1
def tNotV (ta : TE) : TE := fun σ H Q => ta σ H fun x H1 => ∃ c, x = .bl c ∧ Q (.bl (!c)) H1
theorem pe_one {op} {t : TE} (h : PE X a t) : PE X (.BoolOp op [a] pos) t := fun pins s σ H Q I hw => BoolOp_one (h pins s σ H Q I hw)
theorem pe_and (ha : PE X a ta) (hb : PE X (.BoolOp .And (b :: rest) pos) tb) : PE X (.BoolOp .And (a :: b :: rest) pos) (tAndV ta tb) := by
  intro pins s σ H Q I h
  refine BoolOp_and (thn (ha pins s σ H _ I h) fun v s1 ⟨x, H1, I1, r1, q1⟩ => ?_)
  obtain ⟨c, rfl, q1⟩ := q1
  cases r1
  refine wpAny_truthy_bool ?_
  cases c with
  | true => exact hb pins s1 σ H1 Q I1 q1
  | false => exact ⟨.bl false, H1, I1, rfl, q1⟩
theorem pe_not (ha : PE X a ta) : PE X (.UnaryOp .Not a pos) (tNotV ta) := by
  intro pins s σ H Q I h
  refine UnaryOp_ (thn (ha pins s σ H _ I h) fun v s1 ⟨x, H1, I1, r1, q1⟩ => ?_)
  obtain ⟨c, rfl, q1⟩ := q1
  cases r1
  exact not_of (wpAny_truthy_bool ⟨.bl (!c), H1, I1, rfl, q1⟩)
end
end L2
namespace L2
open PySem PySem.Spec PyProof.Rows
def SqL (K : PySem.W.Frag) (H : Hp) (a : Addr) (xs : List V) : Prop :=
  Rd H a (.lst xs) ∨
    ∃ (o : Obj) (its : Array Value) (n : Nat), K.lookup a = some o ∧ o.cls = .type "list" ∧ o.dict = none ∧ o.data = .seq its n ∧ its.size ≤ sizeLine ∧ Vals xs its.toList
def SqT (K : PySem.W.Frag) (H : Hp) (a : Addr) (xs : List V) : Prop :=
  Rd H a (.tup xs) ∨
    ∃ (o : Obj) (its : Array Value) (n : Nat), K.lookup a = some o ∧ o.cls = .type "tuple" ∧ o.data = .seq its n ∧ its.size ≤ sizeLine ∧ Vals xs its.toList
def absV : Value → Option V
  | .none => some .non
  | .bool b => some (.bl b)
  | .int i _ => some (.int i)
  | .str x _ => some (.str x)
  | .bytes b _ => some (.byt b)
  | .float b _ => some (.flt b)
  | .ref a => some (.ref a)
  | .type n => some (.ty n)
  | _ => none
theorem RelV.abs {x : V} {u : Value} (r : RelV x u) : absV u = some x := by
  cases x with
  | non => cases r; rfl
  | bl _ => cases r; rfl
  | int _ => obtain ⟨t, rfl⟩ := r; rfl
  | str _ => obtain ⟨t, rfl⟩ := r; rfl
  | byt _ => obtain ⟨t, rfl⟩ := r; rfl
  | flt _ => obtain ⟨t, rfl⟩ := r; rfl
  | ref _ => cases r; rfl
  | ty _ => cases r; rfl
theorem RelV.inj {x y : V} {u : Value} (r : RelV x u) (q : RelV y u) : x = y := Option.some.inj (r.abs.symm.trans q.abs)
theorem Vals.inj : ∀ {xs ys : List V} {us : List Value}, Vals xs us → Vals ys us → xs = ys
  | _, _, _, .nil, .nil => rfl
  | _, _, _, .cons r t, .cons r' t' => by rw [r.inj r', Vals.inj t t']
section
variable {X : Cx} {pins : List (Addr × Obj)} {σ : St} {H : Hp} {s : Shared} {a : Addr} {xs ys : List V}
theorem SqL.of {K : PySem.W.Frag} (h : H a = some (.lst xs)) : SqL K H a xs := .inl (.inl h)
theorem SqT.of {K : PySem.W.Frag} (h : H a = some (.tup xs)) : SqT K H a xs := .inl (.inl h)
theorem Inv.list (I : Inv X pins σ H s) (h : SqL X.K H a xs) : ∃ its : List Value, Vals xs its ∧ PlainL s.heap a its.toArray ∧ xs.length ≤ sizeLine := by
  rcases h with h | ⟨o, its, n, hk, hc, hd, hs, hz, r⟩
  · obtain ⟨z, its, n, r, e⟩ := h.ok I.hok
    exact ⟨its, r, ⟨_, n, e, rfl, rfl, rfl⟩, z⟩
  · refine ⟨its.toList, r, ⟨o, n, I.kIn a o hk, hc, hd, by simpa using hs⟩, ?_⟩
    have e := r.length
    simp only [Array.length_toList] at e
    omega
theorem Inv.tuple (I : Inv X pins σ H s) (h : SqT X.K H a xs) : ∃ its : List Value, Vals xs its ∧ IsTup s.heap a its.toArray ∧ xs.length ≤ sizeLine := by
  rcases h with h | ⟨o, its, n, hk, hc, hs, hz, r⟩
  · obtain ⟨z, its, r, p⟩ := h.ok I.hok
    exact ⟨its, r, p, z⟩
  · refine ⟨its.toList, r, ⟨o, I.kIn a o hk, hc, n, by simpa using hs⟩, ?_⟩
    have e := r.length
    simp only [Array.length_toList] at e
    omega
theorem Inv.list_inj (I : Inv X pins σ H s) (h : SqL X.K H a xs) (h' : SqL X.K H a ys) : xs = ys := by
  obtain ⟨its, r, ⟨o, n, e, _, _, d⟩, _⟩ := I.list h
  obtain ⟨its', r', ⟨o', n', e', _, _, d'⟩, _⟩ := I.list h'
  rw [e] at e'; cases e'
  rw [d] at d'
  injection d' with d1 _
  have : its = its' := by simpa using congrArg Array.toList d1
  subst this
  exact r.inj r'
end
abbrev Cx.wish (X : Cx) (E : Value → Shared → Prop) : Cx := { X with xe := E }
abbrev Cx.nox (X : Cx) : Cx := X.wish fun _ _ => False
theorem Cx.Ok.wish {X : Cx} (ok : X.Ok) (E : Value → Shared → Prop) : (X.wish E).Ok :=
  ⟨ok.mod, ok.kind, ok.glob, ok.blt, ok.above, ok.inj, ok.has, ok.cab, ok.hd, ok.frames, ok.stk, ok.exf, ok.bs, ok.bsz, ok.noex, ok.exfs, ok.funs, ok.frf⟩
theorem Cx.Ok.unwish {X : Cx} {E : Value → Shared → Prop} (ok : (X.wish E).Ok) : X.Ok :=
  ⟨ok.mod, ok.kind, ok.glob, ok.blt, ok.above, ok.inj, ok.has, ok.cab, ok.hd, ok.frames, ok.stk, ok.exf, ok.bs, ok.bsz, ok.noex, ok.exfs, ok.funs, ok.frf⟩
section
variable {X : Cx} {pins : List (Addr × Obj)} {σ : St} {H : Hp} {s : Shared} {E : Value → Shared → Prop}
theorem Inv.wish (I : Inv X pins σ H s) (E : Value → Shared → Prop) : Inv (X.wish E) pins σ H s := ⟨I.ok.wish E, I.os, I.bare, I.base, I.loc, I.cell, I.free, I.freeC, I.pin, I.hok, I.len⟩
theorem Inv.unwish (I : Inv (X.wish E) pins σ H s) : Inv X pins σ H s := ⟨I.ok.unwish, I.os, I.bare, I.base, I.loc, I.cell, I.free, I.freeC, I.pin, I.hok, I.len⟩
theorem SP.unwish {D : Ends} {f : Flow} {s' : Shared} (h : SP (X.wish E) pins D f s') : SP X pins D f s' := by
  cases f with
  | next => obtain ⟨σ', H', I, q⟩ := h; exact ⟨σ', H', I.unwish, q⟩
  | brk => obtain ⟨σ', H', I, q⟩ := h; exact ⟨σ', H', I.unwish, q⟩
  | cont => obtain ⟨σ', H', I, q⟩ := h; exact ⟨σ', H', I.unwish, q⟩
  | ret u => obtain ⟨v, σ', H', I, r, q⟩ := h; exact ⟨v, σ', H', I.unwish, r, q⟩
theorem PSs.nox {st : List Stmt} {t : TS} (h : PSs X.nox st t) : PSs X st t := fun pins s σ H D I hw =>
  wpAny_mono (h pins s σ H D (I.wish _) hw) (fun _ _ q => q.unwish) fun _ _ z => False.elim z
end
section
variable {X : Cx} {st : Stmt} {rest : List Stmt} {t u : TS} {e : Expr} {te : TE} {pos : Pos}
def tNext : TS := fun D σ H => D.nx σ H
def tSeq (t u : TS) : TS := fun D σ H => t { D with nx := u D } σ H
theorem pss_nil : PSs X [] tNext := fun _ _ σ H _ I h => wpAny_execs_nil ⟨σ, H, I, h⟩
theorem pss_cons (h1 : PS X st t) (h2 : PSs X rest u) : PSs X (st :: rest) (tSeq t u) := by
  intro pins s σ H D I h
  refine wpAny_execs_cons (thn (h1 pins s σ H { D with nx := u D } I h) fun f s1 q => ?_)
  cases f with
  | next =>
    obtain ⟨σ', H', I', q⟩ := q
    exact h2 pins s1 σ' H' D I' q
  | ret v => exact q
  | brk => exact q
  | cont => exact q
theorem pss_one (h1 : PS X st t) : PSs X [st] t := by
  intro pins s σ H D I h
  refine wpAny_execs_cons (thn (h1 pins s σ H D I h) fun f s1 q => ?_)
  cases f with
  | next => exact wpAny_execs_nil q
  | ret v => exact q
  | brk => exact q
  | cont => exact q
theorem Inv.quiet {pins : List (Addr × Obj)} {σ : St} {H : Hp} {s : Shared} (I : Inv X pins σ H s) : interactive X.env = false := by simp [interactive, I.ok.kind]
def tDrop (te : TE) : TS := fun D σ H => te σ H fun _ H1 => D.nx σ H1
theorem ps_expr (he : PE X e te) (hs : swapsWith e none pos.line X.env = pure false := by rfl) : PS X (.Expr e pos) (tDrop te) := by
  intro pins s σ H D I h
  exact wpAny_Expr_any (thn (he pins s σ H _ I h) fun v s1 ⟨x, H1, I1, r1, q1⟩ => ⟨σ, H1, I1, q1⟩) I.quiet hs
def tRet (te : TE) : TS := fun D σ H => te σ H D.rt
theorem ps_ret (he : PE X e te) : PS X (.Return (some e) pos) (tRet te) := by
  intro pins s σ H D I h
  exact wpAny_Return_some (thn (he pins s σ H _ I h) fun v s1 ⟨x, H1, I1, r1, q1⟩ => ⟨x, σ, H1, I1, r1, q1⟩)
def tIfS (c : TT) (t u : TS) : TS := fun D σ H => c σ H fun b H1 => if b = true then t D σ H1 else u D σ H1
theorem ps_if {c : Expr} {a b : List Stmt} {tc : TT} (hc : PT X c tc) (ha : PSs X a t) (hb : PSs X b u) : PS X (.If c a b pos) (tIfS tc t u) := by
  intro pins s σ H D I h
  refine wpAny_If (thn (hc pins s σ H _ I h) fun d s1 ⟨H1, I1, q1⟩ => ?_)
  cases d with
  | true => exact ha pins s1 σ H1 D I1 q1
  | false => exact hb pins s1 σ H1 D I1 q1
def tNever : TS := fun _ _ _ => False
theorem pss_never {sts : List Stmt} : PSs X sts tNever := fun _ _ _ _ _ _ h => h.elim
end
abbrev TG := V → St → Hp → (St → Hp → Prop) → Prop
abbrev TGs := List V → St → Hp → (St → Hp → Prop) → Prop
def PG (X : Cx) (target : Expr) (t : TG) : Prop :=
  ∀ (pins : List (Addr × Obj)) (s : Shared) (σ : St) (H : Hp) (v : V) (u : Value) (Q : St → Hp → Prop), Inv X pins σ H s → RelV v u → t v σ H Q →
    wpAny (model X.prog X.w) X.A (assign target X.env u) (fun _ s' => ∃ σ' H', Inv X pins σ' H' s' ∧ Q σ' H') X.xe s
def PGs (X : Cx) (ts : List Expr) (t : TGs) : Prop :=
  ∀ (pins : List (Addr × Obj)) (s : Shared) (σ : St) (H : Hp) (vs : List V) (us : List Value) (Q : St → Hp → Prop), Inv X pins σ H s → Vals vs us → t vs σ H Q →
    wpAny (model X.prog X.w) X.A (assignInOrder ((assignEach ts X.env).map (·.2)) us) (fun _ s' => ∃ σ' H', Inv X pins σ' H' s' ∧ Q σ' H') X.xe s
abbrev TSet := V → V → V → Hp → (Hp → Prop) → Prop
def PSet (X : Cx) (t : TSet) : Prop :=
  ∀ (pins : List (Addr × Obj)) (s : Shared) (σ : St) (H : Hp) (o i v : V) (ov iv u : Value) (Q : Hp → Prop), Inv X pins σ H s → RelV o ov → RelV i iv → RelV v u → t o i v H Q →
    wpAny (model X.prog X.w) X.A (setItem ov iv u) (fun _ s' => ∃ H', Inv X pins σ H' s' ∧ Q H') X.xe s
section
variable {X : Cx} {pos : Pos}
def gName (i : Nat) : TG := fun v σ H Q => Q (σ.set i (some v)) H
theorem pg_name {i : Nat} {x : Str} (hN : X.N.Nodup) (hi : X.N[i]? = some x) (hx : Loc X.env.scope x) (hf : X.fn x = true ∨ X.env.scope.names.lookup x = some .local := by first | exact .inl rfl | exact .inr rfl | assumption) : PG X (.Name x pos) (gName i) := by
  intro pins s σ H v u Q I r h
  exact wpAny_assign_Name (store_ok I hN hi hx r (fun s' I' => ⟨_, H, I', h⟩) hf)
def gNil : TGs := fun vs σ H Q => vs = [] ∧ Q σ H
def gCons (t : TG) (u : TGs) : TGs := fun vs σ H Q => ∃ v r, vs = v :: r ∧ t v σ H fun σ' H' => u r σ' H' Q
theorem pgs_nil : PGs X [] gNil := by
  intro pins s σ H vs us Q I r h
  obtain ⟨e, h⟩ := h
  subst e
  cases r
  exact assignInOrder_nil ⟨σ, H, I, h⟩
theorem pgs_cons {e : Expr} {es : List Expr} {t : TG} {u : TGs} (h1 : PG X e t) (h2 : PGs X es u)
    (hs : (assignEach (e :: es) X.env).map (·.2) = assign e X.env :: (assignEach es X.env).map (·.2) := by rfl) : PGs X (e :: es) (gCons t u) := by
  intro pins s σ H vs us Q I r h
  obtain ⟨v, vr, e1, h⟩ := h
  subst e1
  cases r with
  | cons r rr =>
    rw [hs]
    refine assignInOrder_cons (thn (h1 pins s σ H _ _ _ I r h) fun _ s1 ⟨σ1, H1, I1, q1⟩ => ?_)
    exact h2 pins s1 σ1 H1 _ _ Q I1 rr q1
def gTup (K : PySem.W.Frag) (n : Nat) (t : TGs) : TG := fun v σ H Q => ∃ a xs, v = .ref a ∧ SqT K H a xs ∧ xs.length = n ∧ t xs σ H Q
theorem pg_tup {es : List Expr} {k : Nat} {t : TGs} {n : Nat} (hc : X.calm = true) (h : PGs X es t)
    (hn : (assignEach es X.env).length = n := by rfl) (hst : (assignEach es X.env).findIdx? (·.1) = none := by rfl) : PG X (.Tuple es k pos) (gTup X.K n t) := by
  intro pins s σ H v u Q I r hw
  obtain ⟨a, xs, e1, hq, hl, hw⟩ := hw
  subst e1
  cases r
  obtain ⟨its, rv, ht, hz⟩ := I.tuple hq
  refine assign_Tuple_tuple (I.ok.hd hc) ht (by simp [hn, ← hl, rv.length]) hst fun h' hx => ?_
  have I1 : Inv X pins σ H { s with heap := h' } := I.kept (t' := s.toks) fun b o e => hx b o (Nat.ne_of_lt (Heap.lt_size e)) e
  exact h pins _ σ H xs _ Q I1 (by simpa using rv) hw
def gSub (to ti : TE) (t : TSet) : TG := fun v σ H Q => to σ H fun o H1 => ti σ H1 fun i H2 => t o i v H2 fun H3 => Q σ H3
theorem pg_sub {o i : Expr} {to ti : TE} {t : TSet} (ho : PE X o to) (hi : PE X i ti) (hs : PSet X t)
    (ha : ∀ v, assign (.Subscript o i pos) X.env v = (do
      let ov ← holding [v] (eval o X.env)
      let iv ← holding [v, ov] (eval i X.env)
      standAt pos
      holding [v, ov, iv] (setItem ov iv v)
      release [v, ov, iv] []) := by intro _; rfl) : PG X (.Subscript o i pos) (gSub to ti t) := by
  intro pins s σ H v u Q I r h
  rw [ha]
  refine wpAny_bind (wpAny_holding (thn (ho pins s σ H _ I h) fun ov s1 ⟨x, H1, I1, r1, q1⟩ => ?_))
  refine wpAny_bind (wpAny_holding (thn (hi pins s1 σ H1 _ I1 q1) fun iv s2 ⟨y, H2, I2, r2, q2⟩ => ?_))
  refine wpAny_bind (wpAny_standAt (wpAny_bind (wpAny_holding (thn (hs pins s2 σ H2 x y v ov iv u _ I2 r1 r2 r q2) fun _ s3 ⟨H3, I3, q3⟩ => ?_))))
  exact wpAny_release ⟨σ, H3, I3, q3⟩
def tAsg (te : TE) (g : TG) : TS := fun D σ H => te σ H fun x H1 => g x σ H1 D.nx
theorem ps_asg {tg e : Expr} {te : TE} {g : TG} (he : PE X e te) (hg : PG X tg g) (hs : swapsWithSole [tg] e pos.line X.env = pure false := by rfl) (hw : swappedStores [tg] e X.env = pure none := by rfl)
    (h1 : (assignEach [tg] X.env).map (·.2) = [assign tg X.env] := by rfl) : PS X (.Assign [tg] e pos) (tAsg te g) := by
  intro pins s σ H D I h
  refine wpAny_Assign_stores (thn (he pins s σ H _ I h) fun v s1 ⟨x, H1, I1, r1, q1⟩ => ?_) hs hw
  rw [h1]
  exact thn (hg pins s1 σ H1 x v _ I1 r1 q1) fun _ s2 q => q
theorem ps_set {i : Nat} {x : Str} {e : Expr} {te : TE} {pos' : Pos} (hN : X.N.Nodup) (hi : X.N[i]? = some x) (hx : Loc X.env.scope x) (he : PE X e te) (hs : swapsWith e (some (.Name x pos')) pos.line X.env = pure false := by rfl) (hf : X.fn x = true ∨ X.env.scope.names.lookup x = some .local := by first | exact .inl rfl | exact .inr rfl | assumption) :
    PS X (.Assign [.Name x pos'] e pos) (tAsg te (gName i)) := by
  intro pins s σ H D I h
  refine wpAny_Assign_Name (thn (he pins s σ H _ I h) fun v s1 ⟨y, H1, I1, r1, q1⟩ => ?_) hs
  exact store_ok I1 hN hi hx r1 (fun s2 I2 => ⟨_, H1, I2, q1⟩) hf
end
section
variable {X : Cx} {pos : Pos}
def tWhile (c : TT) (tb : TS) : TS := fun D σ H => ∃ W : Nat → St → Hp → Prop, (∃ m, W m σ H) ∧ ∀ m σ H, W m σ H →
  c σ H fun b H1 => if b = true then ∃ N : St → Hp → Prop, (∀ σ' H', N σ' H' → ∃ m', m' < m ∧ W m' σ' H') ∧ tb { D with nx := N, ct := N, bk := D.nx } σ H1 else D.nx σ H1
theorem ps_while {c : Expr} {body : List Stmt} {tc : TT} {tb : TS} (hp : PassesOwn (model X.prog X.w) X.A X.env X.xe) (hc : PT X c tc) (hb : PSs X body tb) : PS X (.While c body [] pos) (tWhile tc tb) := by
  intro pins s σ H D I h
  obtain ⟨W, ⟨m0, w0⟩, turn⟩ := h
  refine wpAny_While (codeAny_whileLoop (fun n s' => ∃ σ' H', Inv X pins σ' H' s' ∧ W n σ' H') ?_ m0 ⟨σ, H, I, w0⟩)
  rintro n s1 ⟨σ1, H1, I1, w1⟩
  refine wpAny_passesOwn hp (thn (hc pins s1 σ1 H1 _ I1 (turn n σ1 H1 w1)) fun b s2 ⟨H2, I2, q2⟩ => ?_)
  cases b with
  | true =>
    obtain ⟨N, hN, q2⟩ := q2
    rw [if_pos rfl]
    refine wpAny_passesOwn hp (thn (hb pins s2 σ1 H2 _ I2 q2) fun f s3 q3 => ?_)
    cases f with
    | next =>
      obtain ⟨σ3, H3, I3, n3⟩ := q3
      obtain ⟨m', hm, w3⟩ := hN σ3 H3 n3
      exact ⟨m', hm, σ3, H3, I3, w3⟩
    | cont =>
      obtain ⟨σ3, H3, I3, n3⟩ := q3
      obtain ⟨m', hm, w3⟩ := hN σ3 H3 n3
      exact ⟨m', hm, σ3, H3, I3, w3⟩
    | brk => exact q3
    | ret v => exact q3
  | false =>
    rw [if_neg Bool.false_ne_true]
    exact wpAny_execs_nil ⟨σ1, H2, I2, q2⟩
end
structure It where
  go : Nat → Hp → Prop
  yld : Nat → Hp → V → Hp → Prop
  stop : Nat → Hp → Prop
def FpOk (X : Cx) (pins : List (Addr × Obj)) (H : Hp) (b : Addr) : Prop :=
  H b = none ∧ b ≠ X.env.locals ∧ b ∉ X.fs ∧ (b ∈ X.ex ∨ X.s₀.heap.objs.size ≤ b) ∧ (∀ x c, X.env.cells.lookup x = some c → c ≠ b) ∧ ∀ p ∈ X.pn ++ pins, p.1 ≠ b
theorem Inv.fpOk {X : Cx} {pins : List (Addr × Obj)} {σ : St} {H H' : Hp} {s : Shared} {b : Addr} (I : Inv X pins σ H s) (hb : s.heap.objs.size ≤ b) (hn : H' b = none) : FpOk X pins H' b := by
  refine ⟨hn, Nat.ne_of_gt (Nat.lt_of_lt_of_le I.lt hb), I.nofs hb, .inr (Nat.le_trans I.sz hb), fun x c e z => ?_, fun p hp z => ?_⟩
  · obtain ⟨v, q⟩ := I.cell x c e
    exact absurd (Nat.lt_of_lt_of_le q.lt (by rw [z]; exact hb)) (Nat.lt_irrefl _)
  · exact absurd (Nat.lt_of_lt_of_le (Heap.lt_size (I.pin p hp).1) (by rw [z]; exact hb)) (Nat.lt_irrefl _)
structure Turn (P : Program) (w : World) (K : PySem.W.Frag) (tg : Expr) (J : It) (fp : List Addr) (it : Addr) (tn : Nat → Heap → Prop) : Prop where
  mem : it ∈ fp
  obj : ∀ i h, tn i h → ∀ b ∈ fp, ∃ o, h.get? b = some o ∧ ∀ v, o.data ≠ .cell v
  keep : ∀ i h h', tn i h → (∀ b ∈ fp, ∀ o, h.get? b = some o → h'.get? b = some o) → tn i h'
  item : ∀ (X : Cx), X.prog = P → X.w = w → X.K = K → X.calm = true → ∀ (i : Nat) (pins : List (Addr × Obj)) (s : Shared) (σ : St) (H : Hp) (E : Value → Shared → Prop), Inv X pins σ H s → (∀ b ∈ fp, FpOk X pins H b) → tn i s.heap → J.go i H →
    wpAny (model P w) X.A (pyNext (.ref it)) (fun r s1 => ∃ u, r = some u ∧
      wpAny (model P w) X.A (letOwnedTupleGo tg (.ref it) u) (fun _ s2 => ∃ x H', Inv X pins σ H' s2 ∧ RelV x u ∧ J.yld i H x H' ∧ tn (i + 1) s2.heap ∧ ∀ b ∈ fp, H' b = none) E s1) E s
  done : ∀ (X : Cx), X.prog = P → X.w = w → X.K = K → X.calm = true → ∀ (i : Nat) (pins : List (Addr × Obj)) (s : Shared) (σ : St) (H : Hp) (E : Value → Shared → Prop), Inv X pins σ H s → (∀ b ∈ fp, FpOk X pins H b) → tn i s.heap → J.stop i H →
    wpAny (model P w) X.A (pyNext (.ref it)) (fun r s1 => r = none ∧ Inv X pins σ H s1) E s
  self : ∀ (A : Around) (i : Nat) (s : Shared) (Q : Value → Shared → Prop) (E : Value → Shared → Prop), tn i s.heap → Q (.ref it) s → wpAny (model P w) A (pyIter (.ref it)) Q E s
abbrev TI := St → Hp → (It → Hp → Prop) → Prop
def PIE (X : Cx) (pins : List (Addr × Obj)) (σ : St) (tg : Expr) (R : It → Hp → Prop) (itv : Value) (s2 : Shared) : Prop :=
  ∃ (it : Addr) (fp : List Addr) (tn : Nat → Heap → Prop) (J : It) (H' : Hp), itv = .ref it ∧ Inv X pins σ H' s2 ∧ Turn X.prog X.w X.K tg J fp it tn ∧ tn 0 s2.heap ∧ (∀ b ∈ fp, FpOk X pins H' b) ∧ R J H'
def PI (X : Cx) (tg iter : Expr) (wi : TI) : Prop :=
  ∀ (pins : List (Addr × Obj)) (s : Shared) (σ : St) (H : Hp) (R : It → Hp → Prop), Inv X pins σ H s → wi σ H R →
    wpAny (model X.prog X.w) X.A (eval iter X.env) (fun v s1 => wpAny (model X.prog X.w) X.A (pyIter v) (PIE X pins σ tg R) X.xe s1) X.xe s
theorem go_of {M : Model} {A : Around} {E : Value → Shared → Prop} {s : Shared} {tg : Expr} {it : Addr} {u : Value} {o : Obj} {n : String} {vs : Array Value} {Q : Unit → Shared → Prop} (ho : s.heap.get? it = some o) (hc : o.cls = .type n) (hd : o.data = .fields vs)
    (hn : ["enumerate", "zip", "dict_itemiterator", "dict_reverseitemiterator", "odict_iterator", "itertools.zip_longest", "itertools.pairwise"].contains n = false) (hQ : Q () s) : wpAny M A (letOwnedTupleGo tg (.ref it) u) Q E s := by
  unfold letOwnedTupleGo
  cases tg <;> first
    | exact wpAny_pure hQ
    | (cases u <;> first
        | exact wpAny_pure hQ
        | (refine wpAny_bind (wpAny_load ho ?_)
           rw [hc, hd]
           show wpAny M A (if (["enumerate", "zip", "dict_itemiterator", "dict_reverseitemiterator", "odict_iterator", "itertools.zip_longest", "itertools.pairwise"].contains n && vs[0]? == some (rawInt _)) = true then _ else _) Q E s
           rw [if_neg (by intro h; rw [hn, Bool.false_and] at h; cases h)]
           exact wpAny_pure hQ))
def Itl (K : PySem.W.Frag) (a : Addr) : It :=
  ⟨fun i H => ∃ xs x, SqL K H a xs ∧ xs[i]? = some x, fun i H x H' => H' = H ∧ ∀ xs, SqL K H a xs → xs[i]? = some x, fun i H => ∃ xs, SqL K H a xs ∧ xs.length ≤ i⟩
def Itr (lo : Int) (n : Nat) : It := ⟨fun i _ => i < n, fun i H x H' => H' = H ∧ x = .int (lo + i), fun i _ => n ≤ i⟩
theorem turn_list {P : Program} {w : World} {K : PySem.W.Frag} {tg : Expr} (a it : Addr) : Turn P w K tg (Itl K a) [it] it (fun i h => h.IsListIter it a i) where
  mem := by simp
  obj := fun i h st b hb => by
    have e : b = it := by simpa using hb
    subst e
    obtain ⟨o, e, c, d⟩ := st
    exact ⟨o, e, fun v z => by rw [d] at z; cases z⟩
  keep := fun i h h' st k => st.at fun o e => k it (by simp) o e
  item := by
    intro X hP hw hK hc i pins s σ H E I hf st hg
    subst hP hw hK
    obtain ⟨xs, x, hq, hx⟩ := hg
    obtain ⟨its, rv, p, hz⟩ := I.list hq
    obtain ⟨u, hu, ru⟩ := rv.get hx
    obtain ⟨f0, f1, f2, f3, f4, f5⟩ := hf it (by simp)
    refine wpAny_pyNext_list_item st p.isList (x := u) (by simpa using hu) fun h' st' sb => ?_
    have I1 : Inv X pins σ H { s with heap := h' } := I.turned (t' := s.toks) (fun b o hb e => (sb.2 b hb).trans e) f0 f1 f3 f4 f5
    obtain ⟨o, e, c, d⟩ := id st'
    exact ⟨u, rfl, go_of (s := { s with heap := h' }) e c d (by decide) ⟨x, H, I1, ru, ⟨rfl, fun ys hy => by rw [I.list_inj hy hq]; exact hx⟩, st', fun b hb => (hf b hb).1⟩⟩
  done := by
    intro X hP hw hK hc i pins s σ H E I hf st hg
    subst hP hw hK
    obtain ⟨xs, hq, hx⟩ := hg
    obtain ⟨its, rv, p, hz⟩ := I.list hq
    obtain ⟨f0, f1, f2, f3, f4, f5⟩ := hf it (by simp)
    have hl := rv.length
    exact wpAny_pyNext_list_end (I.ok.hd hc) st p.isList (by simp; omega) fun h' eb => ⟨rfl, I.turned (t' := s.toks) (fun b o hb e => eb b o hb e) f0 f1 f3 f4 f5⟩
  self := fun _ _ _ _ _ st h => wpAny_pyIter_listiter st h
theorem turn_range {P : Program} {w : World} {K : PySem.W.Frag} {tg : Expr} (it : Addr) (lo : Int) (n : Nat) : Turn P w K tg (Itr lo n) [it] it (fun i h => IsRangeIter h it (lo + (i : Nat) * 1) ((n : Int) - (i : Nat)) 1) where
  mem := by simp
  obj := fun i h st b hb => by
    have e : b = it := by simpa using hb
    subst e
    exact ⟨_, st, fun v z => by
      have z' : Data.fields _ = Data.cell v := z
      cases z'⟩
  keep := fun i h h' st k => k it (by simp) _ st
  item := by
    intro X hP hw hK hc i pins s σ H E I hf st hg
    subst hP hw hK
    obtain ⟨f0, f1, f2, f3, f4, f5⟩ := hf it (by simp)
    have W := Walks.range (prog := X.prog) (w := X.w) (I.ok.hd hc) it lo 1 n
    refine W.item i s _ _ hg st fun v h' tk hv st' kk => ?_
    obtain ⟨t, rfl⟩ := hv
    have I1 : Inv X pins σ H { s with heap := h', toks := tk } := I.turned (fun b o hb e => kk b o (by simpa using hb) e) f0 f1 f3 f4 f5
    refine ⟨_, rfl, go_of (s := { s with heap := h', toks := tk }) (n := "range_iterator") st' rfl rfl (by decide) ⟨.int (lo + i), H, I1, ⟨t, ?_⟩, ⟨rfl, rfl⟩, st', fun b hb => (hf b hb).1⟩⟩
    rw [Int.mul_one]
  done := by
    intro X hP hw hK hc i pins s σ H E I hf st hg
    subst hP hw hK
    obtain ⟨f0, f1, f2, f3, f4, f5⟩ := hf it (by simp)
    exact wpAny_pyNext_range_end (I.ok.hd hc) st (by have : n ≤ i := hg; omega) fun h' eb => ⟨rfl, I.turned (t' := s.toks) (fun b o hb e => eb b o hb e) f0 f1 f3 f4 f5⟩
  self := fun _ _ _ _ _ st h => wpAny_pyIter_rangeiter st h
end L2
namespace L2
open PySem PySem.Spec PyProof.Rows
section
variable {X : Cx} {tg : Expr}
def iList (K : PySem.W.Frag) (tl : TE) : TI := fun σ H R => tl σ H fun x H1 => ∃ a, x = .ref a ∧ (∃ xs, SqL K H1 a xs) ∧ R (Itl K a) H1
theorem pi_list {l : Expr} {tl : TE} (hl : PE X l tl) : PI X tg l (iList X.K tl) := by
  intro pins s σ H R I h
  refine thn (hl pins s σ H _ I h) fun v s1 ⟨x, H1, I1, r1, q1⟩ => ?_
  obtain ⟨a, e, ⟨xs, hq⟩, q⟩ := q1
  subst e
  cases r1
  obtain ⟨its, rv, p, hz⟩ := I1.list hq
  refine wpAny_pyIter_list p.isList ?_
  refine ⟨s1.heap.objs.size, [s1.heap.objs.size], _, _, H1, rfl, I1.kept (t' := s1.toks) fun b o e => Heap.get?_push_of_some _ e, turn_list a _, ⟨_, Heap.get?_push_size _ rfl, rfl, rfl⟩, fun b hb => ?_, q⟩
  have e : b = s1.heap.objs.size := by simpa using hb
  subst e
  exact I1.fpOk (Nat.le_refl _) (I1.hok.fresh (Nat.le_refl _))
theorem range_it {pins : List (Addr × Obj)} {σ : St} {H : Hp} {s : Shared} {R : It → Hp → Prop} {E : Value → Shared → Prop} {lo hi : Int} {t u v : Tok} {tk : Nat} (I : Inv X pins σ H s) (h1 : -(2 ^ 62) ≤ lo) (h2 : lo < 2 ^ 62) (h3 : -(2 ^ 62) ≤ hi) (h4 : hi < 2 ^ 62)
    (q : R (Itr lo (hi - lo).toNat) H) : wpAny (model X.prog X.w) X.A (pyIter (.ref s.heap.objs.size)) (PIE X pins σ tg R) E { s with heap := s.heap.push { cls := .type "range", data := .fields #[.int lo t, .int hi u, .int 1 v] }, toks := tk } := by
  refine wpAny_pyIter_range (IsRange.new ..) (small_one h1 h2 h3 h4) ?_
  have I1 : Inv X pins σ H { s with heap := s.heap.push { cls := .type "range", data := .fields #[.int lo t, .int hi u, .int 1 v] }, toks := tk } := I.kept fun b o e => Heap.get?_push_of_some _ e
  refine ⟨(s.heap.push { cls := .type "range", data := .fields #[.int lo t, .int hi u, .int 1 v] }).objs.size, [(s.heap.push { cls := .type "range", data := .fields #[.int lo t, .int hi u, .int 1 v] }).objs.size], _, _, H, rfl,
    I1.kept (t' := tk) fun b o e => Heap.get?_push_of_some _ e, turn_range _ lo (hi - lo).toNat, ?_, fun b hb => ?_, q⟩
  · have e1 : lo + ((0 : Nat) : Int) * 1 = lo := by simp
    have e2 : (((hi - lo).toNat : Nat) : Int) - ((0 : Nat) : Int) = Builtin.Range.rangeSize lo hi 1 := by rw [rangeSize_one]; split <;> omega
    show IsRangeIter _ _ (lo + ((0 : Nat) : Int) * 1) ((((hi - lo).toNat : Nat) : Int) - ((0 : Nat) : Int)) 1
    rw [e1, e2]
    exact Heap.get?_push_size _ rfl
  · have e : b = (s.heap.push { cls := .type "range", data := .fields #[.int lo t, .int hi u, .int 1 v] }).objs.size := by simpa using hb
    subst e
    exact I1.fpOk (Nat.le_refl _) (I1.hok.fresh (Nat.le_refl _))
def iRng1 (ta : TA) : TI := fun σ H R => ta σ H fun vs H1 => ∃ j : Int, vs = [.int j] ∧ -(2 ^ 62) ≤ j ∧ j < 2 ^ 62 ∧ R (Itr 0 j.toNat) H1
def iRng2 (ta : TA) : TI := fun σ H R => ta σ H fun vs H1 => ∃ i j : Int, vs = [.int i, .int j] ∧ (-(2 ^ 62) ≤ i ∧ i < 2 ^ 62 ∧ -(2 ^ 62) ≤ j ∧ j < 2 ^ 62) ∧ R (Itr i (j - i).toNat) H1
theorem pi_range1 {a : Expr} {ta : TA} {p pos : Pos} (hg : Gl X "range") (hm : X.mg "range" = none) (ha : PA X [a] ta) (hs : starEach [a] X.env = [(false, eval a X.env)] := by rfl) : PI X tg (.Call (.Name "range" p) [a] [] pos) (iRng1 ta) := by
  intro pins s σ H R I h
  refine Call_ (ld_blt I hg hm boot_range (PyProof.Rows.callWith_type1 (thn (ha pos pins s σ H _ I h) fun us s1 ⟨vs, H1, I1, r1, q1⟩ => ?_) hs rfl))
  obtain ⟨j, e, q1, q2, q⟩ := q1
  subst e
  cases r1 with
  | cons r rr =>
    cases rr
    obtain ⟨t, rfl⟩ := r
    exact call_range_1 (range_it I1 (by omega) (by omega) q1 q2 (by simpa using q))
theorem pi_range2 {a b : Expr} {ta : TA} {p pos : Pos} (hg : Gl X "range") (hm : X.mg "range" = none) (ha : PA X [a, b] ta) (hs : starEach [a, b] X.env = [(false, eval a X.env), (false, eval b X.env)] := by rfl) (hs2 : starEach [b] X.env = [(false, eval b X.env)] := by rfl) :
    PI X tg (.Call (.Name "range" p) [a, b] [] pos) (iRng2 ta) := by
  intro pins s σ H R I h
  refine Call_ (ld_blt I hg hm boot_range (PyProof.Rows.callWith_type1 (thn (ha pos pins s σ H _ I h) fun us s1 ⟨vs, H1, I1, r1, q1⟩ => ?_) (by rw [hs, hs2]) (by rw [hs2]; rfl)))
  obtain ⟨i, j, e, ⟨q1, q2, q3, q4⟩, q⟩ := q1
  subst e
  cases r1 with
  | cons r rr =>
    cases rr with
    | cons r' rr =>
      cases rr
      obtain ⟨t, rfl⟩ := r
      obtain ⟨t', rfl⟩ := r'
      exact call_range_2 (range_it I1 q1 q2 q3 q4 q)
def tFor (wi : TI) (g : TG) (tb : TS) : TS := fun D σ H => wi σ H fun J H1 => ∃ W : Nat → Nat → St → Hp → Prop, (∃ m, W 0 m σ H1) ∧ ∀ i m σ H, W i m σ H →
  (J.stop i H ∧ D.nx σ H) ∨ (J.go i H ∧ ∃ N : St → Hp → Prop, (∀ σ' H', N σ' H' → ∃ m', m' < m ∧ W (i + 1) m' σ' H') ∧ ∀ x H', J.yld i H x H' → g x σ H' fun σ2 H2 => tb { D with nx := N, ct := N, bk := D.nx } σ2 H2)
def pinsAt (fp : List Addr) (h : Heap) : List (Addr × Obj) := fp.filterMap fun b => (h.get? b).map fun o => (b, o)
theorem mem_pinsAt {fp : List Addr} {h : Heap} {b : Addr} {o : Obj} (hb : b ∈ fp) (e : h.get? b = some o) : (b, o) ∈ pinsAt fp h := List.mem_filterMap.mpr ⟨b, hb, by rw [e]; rfl⟩
theorem of_pinsAt {fp : List Addr} {h : Heap} {p : Addr × Obj} (hp : p ∈ pinsAt fp h) : p.1 ∈ fp ∧ h.get? p.1 = some p.2 := by
  obtain ⟨b, hb, e⟩ := List.mem_filterMap.mp hp
  cases q : h.get? b with
  | none => rw [q] at e; cases e
  | some o =>
    rw [q] at e
    have e' : (b, o) = p := Option.some.inj e
    subst e'
    exact ⟨hb, q⟩
theorem Inv.pinned {pins : List (Addr × Obj)} {σ : St} {H : Hp} {s : Shared} {fp : List Addr} (I : Inv X pins σ H s) (hf : ∀ b ∈ fp, FpOk X pins H b) (ho : ∀ b ∈ fp, ∃ o, s.heap.get? b = some o ∧ ∀ v, o.data ≠ .cell v) : Inv X (pins ++ pinsAt fp s.heap) σ H s :=
  I.pins_of fun p hp => (List.mem_append.mp hp).elim (fun z => I.pin p (List.mem_append_right _ z)) fun z => by
    obtain ⟨hb, e⟩ := of_pinsAt z
    obtain ⟨f0, f1, f2, _⟩ := hf p.1 hb
    obtain ⟨o, e', d⟩ := ho p.1 hb
    rw [e] at e'; cases e'
    exact ⟨e, f0, f1, f2, d⟩
theorem Inv.unpinned {pins pl : List (Addr × Obj)} {σ : St} {H : Hp} {s : Shared} (I : Inv X (pins ++ pl) σ H s) : Inv X pins σ H s := I.pins_of fun p hp => I.pin p (List.mem_append_right _ (List.mem_append_left _ hp))
theorem ps_for {iter : Expr} {body : List Stmt} {wi : TI} {g : TG} {tb : TS} {pos : Pos} (hp : PassesOwn (model X.prog X.w) X.A X.env X.xe) (hc : X.calm = true) (hi : PI X tg iter wi) (hg : PG X tg g) (hb : PSs X body tb)
    (hs : ∀ x, foldedSetIterable iter X.env x = pure x := by intro _; rfl) : PS X (.For tg iter body [] pos) (tFor wi g tb) := by
  intro pins s σ H D I h
  refine wpAny_For (thn (hi pins s σ H _ I h) fun v s1 h1 => thn h1 fun itv s2 h2 => ?_) hs
  obtain ⟨it, fp, tn, J, H2, e, I2, T, st2, f2, W, ⟨m0, w0⟩, turn⟩ := h2
  subst e
  -- what stays true of the iterator's objects through the loop
  have stat : ∀ {H' : Hp}, (∀ b ∈ fp, H' b = none) → ∀ b ∈ fp, FpOk X pins H' b := fun hn b hb => ⟨hn b hb, (f2 b hb).2⟩
  refine codeAny_forLoop_any (fun n s' => ∃ i σ' H', Inv X pins σ' H' s' ∧ tn i s'.heap ∧ (∀ b ∈ fp, H' b = none) ∧ W i n σ' H') ?_ m0 ⟨0, σ, H2, I2, st2, fun b hb => (f2 b hb).1, w0⟩
  rintro n s3 ⟨i, σ3, H3, I3, st3, fr3, w3⟩
  rcases turn i n σ3 H3 w3 with ⟨stop, qn⟩ | ⟨go, N, hN, step⟩
  · refine wpAny_passesOwn hp (thn (T.done X rfl rfl rfl hc i pins s3 σ3 H3 X.xe I3 (stat fr3) st3 stop) fun r s4 ⟨hr, I4⟩ => ?_)
    subst hr
    exact wpAny_execs_nil ⟨σ3, H3, I4, qn⟩
  · refine wpAny_passesOwn hp (thn (T.item X rfl rfl rfl hc i pins s3 σ3 H3 X.xe I3 (stat fr3) st3 go) fun r s4 ⟨u, hr, h4⟩ => ?_)
    subst hr
    refine wpAny_passesOwn hp (thn h4 fun _ s5 ⟨x, H5, I5, r5, y5, st5, fr5⟩ => ?_)
    have I5' := I5.pinned (stat fr5) (T.obj _ _ st5)
    refine wpAny_passesOwn hp (thn (hg _ s5 σ3 H5 x u _ I5' r5 (step x H5 y5)) fun _ s6 ⟨σ6, H6, I6, q6⟩ => ?_)
    refine wpAny_passesOwn hp (thn (hb _ s6 σ6 H6 _ I6 q6) fun f s7 q7 => ?_)
    have again : ∀ {σ7 : St} {H7 : Hp}, Inv X (pins ++ pinsAt fp s5.heap) σ7 H7 s7 → N σ7 H7 → ∃ m, m < n ∧ ∃ i σ' H', Inv X pins σ' H' s7 ∧ tn i s7.heap ∧ (∀ b ∈ fp, H' b = none) ∧ W i m σ' H' := fun {σ7 H7} I7 n7 => by
      obtain ⟨m', hm, w7⟩ := hN σ7 H7 n7
      refine ⟨m', hm, i + 1, σ7, H7, I7.unpinned, T.keep _ _ _ st5 fun b hb o e => (I7.pin (b, o) (List.mem_append_right _ (List.mem_append_right _ (mem_pinsAt hb e)))).1, fun b hb => ?_, w7⟩
      obtain ⟨o, e, d⟩ := T.obj _ _ st5 b hb
      exact (I7.pin (b, o) (List.mem_append_right _ (List.mem_append_right _ (mem_pinsAt hb e)))).2.1
    cases f with
    | next => obtain ⟨σ7, H7, I7, n7⟩ := q7; exact again I7 n7
    | cont => obtain ⟨σ7, H7, I7, n7⟩ := q7; exact again I7 n7
    | brk => obtain ⟨σ7, H7, I7, q7⟩ := q7; exact ⟨σ7, H7, I7.unpinned, q7⟩
    | ret v => obtain ⟨x7, σ7, H7, I7, r7, q7⟩ := q7; exact ⟨x7, σ7, H7, I7.unpinned, r7, q7⟩
end
theorem for_list {K : PySem.W.Frag} {a : Addr} {xs : List V} {g : TG} {tb : TS} {D : Ends} {σ : St} {H : Hp} (Pv : Nat → St → Hp → Prop) (h0 : Pv 0 σ H) (hl : ∀ i σ H, i ≤ xs.length → Pv i σ H → SqL K H a xs)
    (hs : ∀ i x σ H, xs[i]? = some x → Pv i σ H → g x σ H fun σ2 H2 => tb { D with nx := Pv (i + 1), ct := Pv (i + 1), bk := D.nx } σ2 H2) (hd : ∀ σ H, Pv xs.length σ H → D.nx σ H) :
    ∃ W : Nat → Nat → St → Hp → Prop, (∃ m, W 0 m σ H) ∧ ∀ i m σ H, W i m σ H →
      ((Itl K a).stop i H ∧ D.nx σ H) ∨ ((Itl K a).go i H ∧ ∃ N : St → Hp → Prop, (∀ σ' H', N σ' H' → ∃ m', m' < m ∧ W (i + 1) m' σ' H') ∧ ∀ x H', (Itl K a).yld i H x H' → g x σ H' fun σ2 H2 => tb { D with nx := N, ct := N, bk := D.nx } σ2 H2) := by
  refine ⟨fun i m σ H => m = xs.length - i ∧ i ≤ xs.length ∧ Pv i σ H, ⟨xs.length, by simp, Nat.zero_le _, h0⟩, ?_⟩
  rintro i m σ H ⟨rfl, hi, p⟩
  have q := hl i σ H hi p
  by_cases hlt : i < xs.length
  · refine .inr ⟨⟨xs, xs[i], q, by simp [hlt]⟩, Pv (i + 1), fun σ' H' p' => ⟨xs.length - (i + 1), by omega, rfl, hlt, p'⟩, fun x H' y => ?_⟩
    obtain ⟨e, y⟩ := y
    subst e
    exact hs i x σ _ (y xs q) p
  · have e : i = xs.length := by omega
    subst e
    exact .inl ⟨⟨xs, q, Nat.le_refl _⟩, hd σ H p⟩
theorem for_range {lo : Int} {n : Nat} {g : TG} {tb : TS} {D : Ends} {σ : St} {H : Hp} (Pv : Nat → St → Hp → Prop) (h0 : Pv 0 σ H)
    (hs : ∀ i σ H, i < n → Pv i σ H → g (.int (lo + i)) σ H fun σ2 H2 => tb { D with nx := Pv (i + 1), ct := Pv (i + 1), bk := D.nx } σ2 H2) (hd : ∀ σ H, Pv n σ H → D.nx σ H) :
    ∃ W : Nat → Nat → St → Hp → Prop, (∃ m, W 0 m σ H) ∧ ∀ i m σ H, W i m σ H →
      ((Itr lo n).stop i H ∧ D.nx σ H) ∨ ((Itr lo n).go i H ∧ ∃ N : St → Hp → Prop, (∀ σ' H', N σ' H' → ∃ m', m' < m ∧ W (i + 1) m' σ' H') ∧ ∀ x H', (Itr lo n).yld i H x H' → g x σ H' fun σ2 H2 => tb { D with nx := N, ct := N, bk := D.nx } σ2 H2) := by
  refine ⟨fun i m σ H => m = n - i ∧ i ≤ n ∧ Pv i σ H, ⟨n, by simp, Nat.zero_le _, h0⟩, ?_⟩
  rintro i m σ H ⟨rfl, hi, p⟩
  by_cases hlt : i < n
  · refine .inr ⟨hlt, Pv (i + 1), fun σ' H' p' => ⟨n - (i + 1), by omega, rfl, hlt, p'⟩, fun x H' y => ?_⟩
    obtain ⟨e, y⟩ := y
    subst e y
    exact hs i σ _ hlt p
  · have e : i = n := by omega
    subst e
    exact .inl ⟨Nat.le_refl _, hd σ H p⟩
end L2
namespace L2
open PySem PySem.Spec PyProof.Rows
abbrev R2 := V → V → Hp → VK → Prop
def OpR (X : Cx) (f : Value → Value → Sem Value) (r : R2) : Prop :=
  ∀ (pins : List (Addr × Obj)) (s : Shared) (σ : St) (H : Hp) (x y : V) (v u : Value) (Q : VK), Inv X pins σ H s → RelV x v → RelV y u → r x y H Q →
    wpAny (model X.prog X.w) X.A (f v u) (EP X pins σ Q) X.xe s
def UnR (X : Cx) (f : Value → Sem Value) (r : V → Hp → VK → Prop) : Prop :=
  ∀ (pins : List (Addr × Obj)) (s : Shared) (σ : St) (H : Hp) (x : V) (v : Value) (Q : VK), Inv X pins σ H s → RelV x v → r x H Q →
    wpAny (model X.prog X.w) X.A (f v) (EP X pins σ Q) X.xe s
def CallR (X : Cx) (f : Value) (r : List V → Hp → VK → Prop) : Prop :=
  ∀ (pins : List (Addr × Obj)) (s : Shared) (σ : St) (H : Hp) (xs : List V) (us : List Value) (Q : VK), Inv X pins σ H s → Vals xs us → r xs H Q →
    wpAny (model X.prog X.w) X.A (call f us) (EP X pins σ Q) X.xe s
def TruR (X : Cx) (r : V → Hp → (Bool → Hp → Prop) → Prop) : Prop :=
  ∀ (pins : List (Addr × Obj)) (s : Shared) (σ : St) (H : Hp) (x : V) (v : Value) (Q : Bool → Hp → Prop), Inv X pins σ H s → RelV x v → r x H Q →
    wpAny (model X.prog X.w) X.A (truthy v) (TP X pins σ Q) X.xe s
def tOp (r : R2) (ta tb : TE) : TE := fun σ H Q => ta σ H fun x H1 => tb σ H1 fun y H2 => r x y H2 Q
def tUn (r : V → Hp → VK → Prop) (ta : TE) : TE := fun σ H Q => ta σ H fun x H1 => r x H1 Q
def rI (C : Int → Int → Prop) (g : Int → Int → V) : R2 := fun x y H Q => ∃ i j, x = .int i ∧ y = .int j ∧ C i j ∧ Q (g i j) H
def rI0 (g : Int → Int → V) : R2 := fun x y H Q => ∃ i j, x = .int i ∧ y = .int j ∧ Q (g i j) H
def rU (g : Int → V) : V → Hp → VK → Prop := fun x H Q => ∃ i, x = .int i ∧ Q (g i) H
section
variable {X : Cx} {a b c : Expr} {ta tb tc : TE} {pos : Pos}
theorem binT (ha : PE X a ta) (hb : PE X b tb) {pins : List (Addr × Obj)} {s : Shared} {σ : St} {H : Hp} {R : V → V → Hp → Prop} (I : Inv X pins σ H s)
    (h : ta σ H fun x H1 => tb σ H1 fun y H2 => R x y H2) {Q : Value → Shared → Prop} {f : Value → Value → Sem Value}
    (hf : ∀ v u s2 x y H2, Inv X pins σ H2 s2 → RelV x v → RelV y u → R x y H2 → wpAny (model X.prog X.w) X.A (f v u) Q X.xe s2) :
    wpAny (model X.prog X.w) X.A (eval a X.env) (fun v s₁ => wpAny (model X.prog X.w) X.A (eval b X.env) (fun u s₂ => wpAny (model X.prog X.w) X.A (f v u) Q X.xe s₂) X.xe s₁) X.xe s := by
  refine thn (ha pins s σ H _ I h) fun v s1 ⟨x, H1, I1, r1, q1⟩ => ?_
  refine thn (hb pins s1 σ H1 _ I1 q1) fun u s2 ⟨y, H2, I2, r2, q2⟩ => ?_
  exact hf v u s2 x y H2 I2 r1 r2 q2
theorem pe_op {op : Operator} {r : R2} (ho : OpR X (binaryOp op) r) (ha : PE X a ta) (hb : PE X b tb) : PE X (.BinOp a op b pos) (tOp r ta tb) := by
  intro pins s σ H Q I h
  exact wpAny_BinOp (binT ha hb I h fun v u s2 x y H2 I2 rx ry q => ho pins s2 σ H2 x y v u Q I2 rx ry q)
theorem pe_un {op : UnaryOp} {r : V → Hp → VK → Prop} (ho : UnR X (unaryOp op) r) (ha : PE X a ta) : PE X (.UnaryOp op a pos) (tUn r ta) := by
  intro pins s σ H Q I h
  exact UnaryOp_ (thn (ha pins s σ H _ I h) fun v s1 ⟨x, H1, I1, r1, q1⟩ => ho pins s1 σ H1 x v Q I1 r1 q1)
theorem opI {f : Value → Value → Sem Value} {C : Int → Int → Prop} {g : Int → Int → Int}
    (rule : ∀ (i j : Int) (t u : Tok) (s : Shared) (Q : Value → Shared → Prop) (E : Value → Shared → Prop), C i j → Q (.int (g i j) s.toks) { s with toks := s.toks + 1 } → wpAny (model X.prog X.w) X.A (f (.int i t) (.int j u)) Q E s) :
    OpR X f (rI C fun i j => .int (g i j)) := by
  intro pins s σ H x y v u Q I rx ry h
  obtain ⟨i, j, rfl, rfl, hc, q⟩ := h
  obtain ⟨t, rfl⟩ := rx
  obtain ⟨t', rfl⟩ := ry
  exact rule i j t t' s _ _ hc ⟨.int (g i j), H, I.tok _, ⟨_, rfl⟩, q⟩
theorem opI0 {f : Value → Value → Sem Value} {g : Int → Int → Int}
    (rule : ∀ (i j : Int) (t u : Tok) (s : Shared) (Q : Value → Shared → Prop) (E : Value → Shared → Prop), Q (.int (g i j) s.toks) { s with toks := s.toks + 1 } → wpAny (model X.prog X.w) X.A (f (.int i t) (.int j u)) Q E s) :
    OpR X f (rI0 fun i j => .int (g i j)) := by
  intro pins s σ H x y v u Q I rx ry h
  obtain ⟨i, j, rfl, rfl, q⟩ := h
  obtain ⟨t, rfl⟩ := rx
  obtain ⟨t', rfl⟩ := ry
  exact rule i j t t' s _ _ ⟨.int (g i j), H, I.tok _, ⟨_, rfl⟩, q⟩
theorem opB0 {f : Value → Value → Sem Value} {g : Int → Int → Bool}
    (rule : ∀ (i j : Int) (t u : Tok) (s : Shared) (Q : Value → Shared → Prop) (E : Value → Shared → Prop), Q (.bool (g i j)) s → wpAny (model X.prog X.w) X.A (f (.int i t) (.int j u)) Q E s) :
    OpR X f (rI0 fun i j => .bl (g i j)) := by
  intro pins s σ H x y v u Q I rx ry h
  obtain ⟨i, j, rfl, rfl, q⟩ := h
  obtain ⟨t, rfl⟩ := rx
  obtain ⟨t', rfl⟩ := ry
  exact rule i j t t' s _ _ ⟨.bl (g i j), H, I, rfl, q⟩
def CDiv (i j : Int) : Prop := 0 < j ∧ j < 1073741824
def CPow (i j : Int) : Prop := 0 ≤ j ∧ j ≤ 1000000 ∧ i.natAbs < 2 ^ 64
def CMul (i j : Int) : Prop := (-(2 ^ 64) < i ∧ i < 2 ^ 64) ∨ (-(2 ^ 64) < j ∧ j < 2 ^ 64)
theorem CMul.ok {i j : Int} (h : CMul i j) : IntMulOk i j := by
  rcases h with ⟨h1, h2⟩ | ⟨h1, h2⟩
  · exact .of_left (intBits_le_64 h1 h2)
  · exact .of_right (intBits_le_64 h1 h2)
theorem op_add : OpR X (binaryOp .Add) (rI0 fun i j => .int (i + j)) := opI0 fun _ _ _ _ _ _ _ q => add_int q
theorem op_mul : OpR X (binaryOp .Mult) (rI CMul fun i j => .int (i * j)) := opI fun _ _ _ _ _ _ _ hc q => mul_int q hc.ok
theorem op_fdiv : OpR X (binaryOp .FloorDiv) (rI CDiv fun i j => .int (i / j)) := opI fun i j _ _ _ _ _ hc q => by
  have h1 : (0 : Int) < j := hc.1
  have h2 : j < 1073741824 := hc.2
  exact floordiv_int (by omega) (by rw [Int.fdiv_eq_ediv_of_nonneg i (by omega)]; exact q) (.inl (PyProof.noPylong_small (by omega)))
theorem op_mod : OpR X (binaryOp .Mod) (rI (fun _ j => 0 < j) fun i j => .int (i % j)) := opI fun i j _ _ _ _ _ hc q => by
  have h1 : (0 : Int) < j := hc
  exact mod_int' (by omega) (by rw [Int.fmod_eq_emod_of_nonneg i (by omega)]; exact q)
theorem op_pow : OpR X (binaryOp .Pow) (rI CPow fun i j => .int (i ^ j.toNat)) := opI fun _ _ _ _ _ _ _ hc q => pow_int_small hc.1 hc.2.1 hc.2.2 q
theorem unI {f : Value → Sem Value} {g : Int → Int}
    (rule : ∀ (i : Int) (t : Tok) (s : Shared) (Q : Value → Shared → Prop) (E : Value → Shared → Prop), Q (.int (g i) s.toks) { s with toks := s.toks + 1 } → wpAny (model X.prog X.w) X.A (f (.int i t)) Q E s) :
    UnR X f (rU fun i => .int (g i)) := by
  intro pins s σ H x v Q I rx h
  obtain ⟨i, rfl, q⟩ := h
  obtain ⟨t, rfl⟩ := rx
  exact rule i t s _ _ ⟨.int (g i), H, I.tok _, ⟨_, rfl⟩, q⟩
theorem un_neg : UnR X (unaryOp .USub) (rU fun i => .int (-i)) := unI fun _ _ _ _ _ q => neg_int q
end
def scal : V → V → Bool
  | .non, .non => true | .non, .int _ => true | .int _, .non => true | .non, .bl _ => true | .bl _, .non => true | .non, .str _ => true | .str _, .non => true
  | .int _, .int _ => true | .bl _, .bl _ => true | .str _, .str _ => true | .byt _, .byt _ => true
  | .int _, .str _ => true | .str _, .int _ => true | .bl _, .str _ => true | .str _, .bl _ => true
  | _, _ => false
def rEq : R2 := fun x y H Q => scal x y = true ∧ Q (.bl (decide (x = y))) H
def rNe : R2 := fun x y H Q => scal x y = true ∧ Q (.bl (!decide (x = y))) H
theorem dec_int {i j : Int} : decide (V.int i = V.int j) = (i == j) := by
  rw [Bool.eq_iff_iff]
  simp
theorem dec_bl {i j : Bool} : decide (V.bl i = V.bl j) = (i == j) := by
  rw [Bool.eq_iff_iff]
  simp
theorem dec_str {i j : Str} : decide (V.str i = V.str j) = (i == j) := by
  rw [Bool.eq_iff_iff]
  simp
theorem dec_byt {i j : Array UInt8} : decide (V.byt i = V.byt j) = (i.toList == j.toList) := by
  rw [Bool.eq_iff_iff]
  cases i
  cases j
  simp
section
variable {X : Cx} {a b c : Expr} {ta tb tc : TE} {pos : Pos}
theorem fin_bl {pins : List (Addr × Obj)} {σ : St} {H : Hp} {s : Shared} {Q : VK} {k k' : Bool} (I : Inv X pins σ H s) (q : Q (.bl k) H) (e : k = k') : EP X pins σ Q (.bool k') s := by
  subst e
  exact ⟨.bl k, H, I, rfl, q⟩
theorem op_eq : OpR X (compareOp .Eq) rEq := by
  intro pins s σ H x y v u Q I rx ry h
  obtain ⟨hs, q⟩ := h
  cases x with
  | non =>
    cases rx
    cases y with
    | non => cases ry; exact PySem.EqNone.eq_none_none (fin_bl I q (by simp))
    | bl j => cases ry; exact PySem.EqNone.eq_none_bool (fin_bl I q (by simp))
    | int j => obtain ⟨t', rfl⟩ := ry; exact PySem.EqNone.eq_none_int (fin_bl I q (by simp))
    | str j => obtain ⟨t', rfl⟩ := ry; exact PySem.EqNone.eq_none_str (fin_bl I q (by simp))
    | _ => exact absurd (show false = true from hs) Bool.false_ne_true
  | bl i =>
    cases rx
    cases y with
    | non => cases ry; exact PySem.EqNone.eq_bool_none (fin_bl I q (by simp))
    | bl j => cases ry; exact eq_bool (fin_bl I q dec_bl)
    | str j => obtain ⟨t', rfl⟩ := ry; exact PySem.EqMixed.eq_bool_str (fin_bl I q (by simp))
    | _ => exact absurd (show false = true from hs) Bool.false_ne_true
  | int i =>
    obtain ⟨t, rfl⟩ := rx
    cases y with
    | non => cases ry; exact PySem.EqNone.eq_int_none (fin_bl I q (by simp))
    | int j => obtain ⟨t', rfl⟩ := ry; exact eq_int (fin_bl I q dec_int)
    | str j => obtain ⟨t', rfl⟩ := ry; exact PySem.EqMixed.eq_int_str (fin_bl I q (by simp))
    | _ => exact absurd (show false = true from hs) Bool.false_ne_true
  | str i =>
    obtain ⟨t, rfl⟩ := rx
    cases y with
    | non => cases ry; exact PySem.EqNone.eq_str_none (fin_bl I q (by simp))
    | bl j => cases ry; exact PySem.EqMixed.eq_str_bool (fin_bl I q (by simp))
    | int j => obtain ⟨t', rfl⟩ := ry; exact PySem.EqMixed.eq_str_int (fin_bl I q (by simp))
    | str j => obtain ⟨t', rfl⟩ := ry; exact eq_str (fin_bl I q dec_str)
    | _ => exact absurd (show false = true from hs) Bool.false_ne_true
  | byt i =>
    obtain ⟨t, rfl⟩ := rx
    cases y with
    | byt j => obtain ⟨t', rfl⟩ := ry; exact PySem.W.eq_bytes (fin_bl I q dec_byt)
    | _ => exact absurd (show false = true from hs) Bool.false_ne_true
  | _ => cases y <;> exact absurd (show false = true from hs) Bool.false_ne_true
theorem op_ne : OpR X (compareOp .NotEq) rNe := by
  intro pins s σ H x y v u Q I rx ry h
  obtain ⟨hs, q⟩ := h
  cases x with
  | non =>
    cases rx
    cases y with
    | non => cases ry; exact PySem.EqNone.ne_none_none (fin_bl I q (by simp))
    | bl j => cases ry; exact PySem.EqNone.ne_none_bool (fin_bl I q (by simp))
    | int j => obtain ⟨t', rfl⟩ := ry; exact PySem.EqNone.ne_none_int (fin_bl I q (by simp))
    | str j => obtain ⟨t', rfl⟩ := ry; exact PySem.EqNone.ne_none_str (fin_bl I q (by simp))
    | _ => exact absurd (show false = true from hs) Bool.false_ne_true
  | bl i =>
    cases rx
    cases y with
    | non => cases ry; exact PySem.EqNone.ne_bool_none (fin_bl I q (by simp))
    | bl j => cases ry; exact ne_bool (fin_bl I q (congrArg not dec_bl))
    | str j => obtain ⟨t', rfl⟩ := ry; exact PySem.EqMixed.ne_bool_str (fin_bl I q (by simp))
    | _ => exact absurd (show false = true from hs) Bool.false_ne_true
  | int i =>
    obtain ⟨t, rfl⟩ := rx
    cases y with
    | non => cases ry; exact PySem.EqNone.ne_int_none (fin_bl I q (by simp))
    | int j => obtain ⟨t', rfl⟩ := ry; exact ne_int (fin_bl I q (congrArg not dec_int))
    | str j => obtain ⟨t', rfl⟩ := ry; exact PySem.EqMixed.ne_int_str (fin_bl I q (by simp))
    | _ => exact absurd (show false = true from hs) Bool.false_ne_true
  | str i =>
    obtain ⟨t, rfl⟩ := rx
    cases y with
    | non => cases ry; exact PySem.EqNone.ne_str_none (fin_bl I q (by simp))
    | bl j => cases ry; exact PySem.EqMixed.ne_str_bool (fin_bl I q (by simp))
    | int j => obtain ⟨t', rfl⟩ := ry; exact PySem.EqMixed.ne_str_int (fin_bl I q (by simp))
    | str j => obtain ⟨t', rfl⟩ := ry; exact ne_str (fin_bl I q (congrArg not dec_str))
    | _ => exact absurd (show false = true from hs) Bool.false_ne_true
  | byt i =>
    obtain ⟨t, rfl⟩ := rx
    cases y with
    | byt j => obtain ⟨t', rfl⟩ := ry; exact PySem.W.ne_bytes (fin_bl I q (congrArg not dec_byt))
    | _ => exact absurd (show false = true from hs) Bool.false_ne_true
  | _ => cases y <;> exact absurd (show false = true from hs) Bool.false_ne_true
theorem op_lt : OpR X (compareOp .Lt) (rI0 fun i j => .bl (decide (i < j))) := opB0 fun _ _ _ _ _ _ _ q => lt_int q
theorem op_le : OpR X (compareOp .LtE) (rI0 fun i j => .bl (decide (i ≤ j))) := opB0 fun _ _ _ _ _ _ _ q => le_int q
theorem op_gt : OpR X (compareOp .Gt) (rI0 fun i j => .bl (decide (j < i))) := opB0 fun _ _ _ _ _ _ _ q => gt_int q
theorem op_ge : OpR X (compareOp .GtE) (rI0 fun i j => .bl (decide (j ≤ i))) := opB0 fun _ _ _ _ _ _ _ q => ge_int q
theorem op_isN : OpR X (compareOp .Is) (fun x y H Q => y = .non ∧ Q (.bl (decide (x = .non))) H) := by
  intro pins s σ H x y v u Q I rx ry h
  obtain ⟨rfl, q⟩ := h
  cases ry
  refine is_none_gen (fin_bl I q ?_)
  cases x <;> first
    | (cases rx; rfl)
    | (obtain ⟨t, rfl⟩ := rx; rfl)
theorem op_notN : OpR X (compareOp .IsNot) (fun x y H Q => y = .non ∧ Q (.bl (!decide (x = .non))) H) := by
  intro pins s σ H x y v u Q I rx ry h
  obtain ⟨rfl, q⟩ := h
  cases ry
  refine isnot_none_gen (fin_bl I q ?_)
  cases x <;> first
    | (cases rx; rfl)
    | (obtain ⟨t, rfl⟩ := rx; rfl)
theorem nomark (b : Expr) {op : CmpOp} (h : op ≠ .In := by decide) (h2 : op ≠ .NotIn := by decide) : behindInMarks op b = false := by
  have e1 : (op == CmpOp.In) = false := by cases op <;> first | rfl | exact absurd rfl h
  have e2 : (op == CmpOp.NotIn) = false := by cases op <;> first | rfl | exact absurd rfl h2
  cases b <;> simp [behindInMarks, e1, e2]
theorem pe_cmpR {op : CmpOp} {r : R2} (ho : OpR X (compareOp op) r) (ha : PE X a ta) (hb : PE X b tb) (hm : behindInMarks op b = false) : PE X (.Compare a [op] [b] pos) (tOp r ta tb) := by
  intro pins s σ H Q I h
  exact wpAny_Compare1 (binT ha hb I h fun v u s2 x y H2 I2 rx ry q => ho pins s2 σ H2 x y v u Q I2 rx ry q) hm
def tTest (t : TE) : TT := fun σ H Q => t σ H fun x H' => ∃ k, x = .bl k ∧ Q k H'
theorem pt_cmpR {op : CmpOp} {r : R2} (ho : OpR X (compareOp op) r) (ha : PE X a ta) (hb : PE X b tb) (hm : behindInMarks op b = false) : PT X (.Compare a [op] [b] pos) (tTest (tOp r ta tb)) := by
  intro pins s σ H Q I h
  refine wpAny_isTrue_Compare1 (thn (ha pins s σ H _ I h) fun v s1 ⟨x, H1, I1, r1, q1⟩ => thn (hb pins s1 σ H1 _ I1 q1) fun u s2 ⟨y, H2, I2, r2, q2⟩ =>
    thn (ho pins s2 σ H2 x y v u _ I2 r1 r2 q2) fun c s3 ⟨z, H3, I3, r3, k, e, q3⟩ => ?_) hm
  subst e
  cases r3
  exact wpAny_truthy_bool ⟨H3, I3, q3⟩
def tChain (r r' : R2) (ta tb tc : TE) : TE := fun σ H Q => ta σ H fun x H1 => tb σ H1 fun y H2 => r x y H2 fun z H3 => ∃ k, z = .bl k ∧
  (if k = true then tc σ H3 fun w' H4 => r' y w' H4 Q else Q (.bl false) H3)
theorem pt_chain {op op' : CmpOp} {r r' : R2} (ho : OpR X (compareOp op) r) (ho' : OpR X (compareOp op') r') (ha : PE X a ta) (hb : PE X b tb) (hc : PE X c tc)
    (hm : lastMarks [op, op'] [b, c] = false := by with_unfolding_all rfl) : PT X (.Compare a [op, op'] [b, c] pos) (tTest (tChain r r' ta tb tc)) := by
  intro pins s σ H Q I h
  refine isTrue_chain (thn (ha pins s σ H _ I h) fun v s1 ⟨x, H1, I1, r1, q1⟩ => test_link (thn (hb pins s1 σ H1 _ I1 q1) fun u s2 ⟨y, H2, I2, r2, q2⟩ =>
    thn (ho pins s2 σ H2 x y v u _ I2 r1 r2 q2) fun d s3 ⟨z, H3, I3, r3, k, e, q3⟩ => ?_)) hm
  subst e
  cases r3
  refine wpAny_truthy_bool ?_
  cases k with
  | false =>
    obtain ⟨k', e', q'⟩ := q3
    cases e'
    exact ite_ff ⟨H3, I3, q'⟩
  | true =>
    refine ite_tt (test_last (thn (hc pins s3 σ H3 _ I3 q3) fun w' s4 ⟨z', H4, I4, r4, q4⟩ => thn (ho' pins s4 σ H4 y z' u w' _ I4 r2 r4 q4) fun d' s5 ⟨z2, H5, I5, r5, k2, e2, q5⟩ => ?_))
    subst e2
    cases r5
    exact wpAny_truthy_bool ⟨H5, I5, q5⟩
def TruV (K : PySem.W.Frag) (x : V) (H : Hp) (k : Bool) : Prop :=
  match x with
  | .non => k = false
  | .bl b => k = b
  | .int i => k = (i != 0)
  | .str y => y.length ≤ sizeLine ∧ k = ((y.length : Int) != 0)
  | .byt y => y.size ≤ sizeLine ∧ k = ((y.size : Int) != 0)
  | .ref p => (∃ xs, SqL K H p xs ∧ k = !xs.isEmpty) ∨ (∃ xs, SqT K H p xs ∧ k = !xs.isEmpty) ∨ ∃ kvs, H p = some (.dK kvs) ∧ k = !kvs.isEmpty
  | _ => False
theorem isEmpty_kv {κ : Type} {kvs : List (κ × V)} {vs : List (κ × Value)} (r : KV kvs vs) : (!vs.isEmpty) = !kvs.isEmpty := by
  cases r <;> rfl
theorem isEmpty_of {xs : List V} {its : List Value} (r : Vals xs its) : (!its.toArray.isEmpty) = !xs.isEmpty := by
  cases r <;> simp
theorem line63 : (sizeLine : Nat) < 2 ^ 63 := by rw [sizeLine_eq]; decide
theorem tru_ok : TruR X (fun x H Q => ∃ k, TruV X.K x H k ∧ Q k H) := by
  intro pins s σ H x v Q I rx h
  obtain ⟨k, e, q⟩ := h
  have hl := line63
  have hs : sizeLine = 16777216 := sizeLine_eq
  cases x with
  | non =>
    cases rx
    have e' : k = false := e
    subst e'
    exact truthy_none ⟨H, I, q⟩
  | bl b =>
    cases rx
    have e' : k = b := e
    subst e'
    exact wpAny_truthy_bool ⟨H, I, q⟩
  | int i =>
    obtain ⟨t, rfl⟩ := rx
    have e' : k = (i != 0) := e
    subst e'
    exact PySem.P.truthy_int ⟨H, I, q⟩
  | str y =>
    obtain ⟨t, rfl⟩ := rx
    obtain ⟨hy, e'⟩ : y.length ≤ sizeLine ∧ k = ((y.length : Int) != 0) := e
    subst e'
    exact PySem.P.truthy_str (by omega) ⟨H, I.tok _, q⟩
  | byt y =>
    obtain ⟨t, rfl⟩ := rx
    obtain ⟨hy, e'⟩ : y.size ≤ sizeLine ∧ k = ((y.size : Int) != 0) := e
    subst e'
    exact PySem.W.truthy_bytes (by omega) ⟨H, I.tok _, q⟩
  | ref p =>
    cases rx
    have e' : (∃ xs, SqL X.K H p xs ∧ k = !xs.isEmpty) ∨ (∃ xs, SqT X.K H p xs ∧ k = !xs.isEmpty) ∨ ∃ kvs, H p = some (.dK kvs) ∧ k = !kvs.isEmpty := e
    rcases e' with ⟨xs, hx, e'⟩ | ⟨xs, hx, e'⟩ | ⟨kvs, hx, e'⟩
    · subst e'
      obtain ⟨its, r, pl, hz⟩ := I.list hx
      have hlen := r.length
      exact wpAny_truthy_list pl.isList (by simp only [List.size_toArray]; omega) ⟨H, I.tok _, by rw [isEmpty_of r]; exact q⟩
    · subst e'
      obtain ⟨its, r, pl, hz⟩ := I.tuple hx
      have hlen := r.length
      exact truthy_tuple pl (by simp only [List.size_toArray]; omega) ⟨H, I.tok _, by rw [isEmpty_of r]; exact q⟩
    · subst e'
      obtain ⟨hz, hS, vs, r, m⟩ : kvs.length ≤ sizeLine ∧ (p == sysModules) = false ∧ ∃ vs, KV kvs vs ∧ s.heap.DictOf (mixKind X.prog X.w) p vs := I.hok p _ hx
      have hlen : kvs.length = vs.length := Paired.length r
      exact wpAny_truthy_dict hS m (by omega) ⟨H, I.tok _, by rw [isEmpty_kv r]; exact q⟩
  | _ => exact (show False from e).elim
theorem pt_truth (ha : PE X a ta) (he : ∀ whole, isTrue a X.env whole = (do let v ← whole; standAt a.pos; holding [v] (truthy v))) :
    PT X a (fun σ H Q => ta σ H fun x H' => ∃ k, TruV X.K x H' k ∧ Q k H') := by
  intro pins s σ H Q I h
  exact isTrue_plain (thn (ha pins s σ H _ I h) fun v s1 ⟨x, H1, I1, r1, q1⟩ => tru_ok pins s1 σ H1 x v Q I1 r1 q1) (he _)
theorem vals1 {x : V} {us : List Value} (r : Vals [x] us) : ∃ u, us = [u] ∧ RelV x u := by
  cases r with
  | cons r1 r2 => cases r2; exact ⟨_, rfl, r1⟩
theorem vals2 {x y : V} {us : List Value} (r : Vals [x, y] us) : ∃ u w', us = [u, w'] ∧ RelV x u ∧ RelV y w' := by
  cases r with
  | cons r1 r2 =>
    cases r2 with
    | cons r3 r4 => cases r4; exact ⟨_, _, rfl, r1, r3⟩
theorem call_min2 (hc : X.calm = true) : CallR X (.builtin "min") (fun xs H Q => ∃ i j, xs = [.int i, .int j] ∧ Q (.int (if j < i then j else i)) H) := by
  intro pins s σ H xs us Q I r h
  obtain ⟨i, j, rfl, q⟩ := h
  obtain ⟨u, w', rfl, ⟨t, rfl⟩, ⟨t', rfl⟩⟩ := vals2 r
  refine min_two_ints (I.ok.hd hc) fun h' tk k => ⟨_, H, I.kept k, ?_, q⟩
  by_cases hj : j < i
  · rw [if_pos hj, if_pos hj]; exact ⟨_, rfl⟩
  · rw [if_neg hj, if_neg hj]; exact ⟨_, rfl⟩
end
end L2
namespace L2
open PySem PySem.Spec PyProof.Rows
structure ObjM (h : Heap) (x dx C : Addr) (mA : Str → Option Value) : Prop where
  obj : h.get? x = some (PySem.W.instObj C dx)
  ns : h.Ns1 dx mA
  ne : dx ≠ x
theorem lookIn_ns {h : Heap} {dx : Addr} {mA : Str → Option Value} (n : h.Ns1 dx mA) : ∃ od, h.get? dx = some od ∧ ∀ name, PySem.W.lookIn name od = some (mA name) := by
  obtain ⟨o, es, ep, ho, hd, hk, _, hm⟩ := n
  refine ⟨o, ho, fun name => ?_⟩
  have e := hm name
  unfold nsFind findBy at e
  rw [← Array.find?_toList] at e
  unfold PySem.W.lookIn
  rw [hd]
  dsimp only
  split
  · rename_i y q
    rw [q] at e
    exact congrArg some e
  · rename_i q
    rw [q] at e
    have a : es.toList.any (·.refKey) = false := by
      rw [List.any_eq_false]
      intro y hy
      obtain ⟨z, t, hkey⟩ := hk y (Array.mem_toList_iff.mp hy)
      simp [DictEntry.refKey, hkey]
    have a' : ¬ es.toList.any (·.refKey) = true := by rw [a]; exact Bool.false_ne_true
    rw [if_neg a']
    exact congrArg some e
theorem ObjM.look {h : Heap} {x dx C : Addr} {mA : Str → Option Value} (I : ObjM h x dx C mA) : ∃ od, PySem.W.InstAt h x (PySem.W.instObj C dx) C (some od) ∧ ∀ name, PySem.W.lookIn name od = some (mA name) :=
  let ⟨od, ho, hl⟩ := lookIn_ns I.ns
  ⟨od, ⟨I.obj, rfl, rfl, ho⟩, hl⟩
section
variable {prog : Program} {w : World} {A : Around} {E : Value → Shared → Prop} {s : Shared} {K : PySem.W.Frag} {x dx C f : Addr} {mA : Str → Option Value} {name : Str} {v : Value}
theorem get_map {expr : Bool} {Q : Value → Shared → Prop} (X : K.In s.heap) (I : ObjM s.heap x dx C mA) (hg : PySem.W.plainGet K C name = true) (hh : PySem.W.hasDictIn K C = true)
    (ha : PySem.W.findIn K (.ref C) name = some none) (hv : mA name = some v) (hv' : PySem.W.handedIn v = true) (h : Q v { s with toks := s.toks + 1 }) :
    wpAny (model prog w) A (getAttr (.ref x) name expr) Q E s := by
  obtain ⟨od, J, hl⟩ := I.look
  exact PySem.W.get_value X J (PySem.W.plainGet_of hg).1 (PySem.W.findObj_own hh ha rfl (by rw [hl, hv])) hv' h
theorem get_meth {pl : Sem Bool} {Q : Value × List Value → Shared → Prop} (X : K.In s.heap) (I : ObjM s.heap x dx C mA) (hg : PySem.W.plainGet K C name = true)
    (hf : PySem.W.findIn K (.ref C) name = some (some (.ref f))) (ht : PySem.W.isFn K (.ref f) = true) (hv : mA name = none) (h : Q (.ref f, [.ref x]) s) :
    wpAny (model prog w) A (getMethod (.ref x) name pl) Q E s := by
  obtain ⟨od, J, hl⟩ := I.look
  exact PySem.W.method_fn X J (PySem.W.plainGet_of hg).1 (PySem.W.plainGet_of hg).2 hf (beq_iff_eq.mp ht) (by show (PySem.W.lookIn name od).map (·.isSome) = some false; rw [hl, hv]; rfl) h
theorem set_map {ns : List Str} {Q : Unit → Shared → Prop} (X : K.In s.heap) (I : ObjM s.heap x dx C mA)
    (hs : PySem.W.findIn K (.ref C) "__setattr__" = some (some (.builtin "object.__setattr__"))) (hp : PySem.W.plainOver K C = true) (ht : PySem.W.takerIn K C name = some none) (hh : PySem.W.hasDictIn K C = true)
    (hw : PySem.Within mA ns) (hsz : ns.length ≤ sizeLine)
    (h : ∀ h', ObjM h' x dx C (fun y => if y = name then some v else mA y) → Heap.SameBut dx s.heap h' → Q () { s with heap := h', toks := s.toks + 2 }) :
    wpAny (model prog w) A (setAttr (.ref x) name v) Q E s := by
  obtain ⟨od, J, hl⟩ := I.look
  refine PySem.W.set_plain X J hs (PySem.W.osa_open (s := { s with toks := s.toks + 1 }) (r := none) X J hp ht fun b => ?_)
  obtain ⟨cd, hc, hd'⟩ := PySem.W.any_some hh
  have hx : s.heap.get? x = some ⟨.ref C, some dx, .plain, #[]⟩ := I.obj
  refine wpAny_bind (wpAny_pure (wpAny_bind (wpAny_bind (wpAny_loadPart hx (wpAny_bind (PySem.W.Looks.here (s := { s with toks := s.toks + 1 }) (PySem.W.looks_clsIn X hc) ?_))))))
  rw [hd']
  refine wpAny_pure (a := some dx) (wpAny_bind (wpAny_pure (wpAny_bind ?_)))
  refine wpAny_nsSet1 (s := { s with toks := s.toks + 1 }) I.ns fun h' hn2 hs2 => ?_
  obtain ⟨oD, esD, epD, hoD, hdD, hcD⟩ := hn2.count (PySem.Within.cons name v hw)
  refine wpAny_bind (wpAny_lookBehind hoD (by rw [hdD]; exact pastItsLine_dict (Nat.le_trans hcD (by rw [List.length_cons]; omega))) ?_)
  exact wpAny_pure (h _ ⟨(hs2.2 _ (Ne.symm I.ne)).trans I.obj, hn2, I.ne⟩ hs2)
theorem make_map {R : Result → Shared → Prop} {vs : List Value} {kw : List (Str × Value)} (X : K.In s.heap) (hm : PySem.W.makesIn K C = true)
    (hi : PySem.W.findIn K (.ref C) "__init__" = some (some (.ref f))) (hf : PySem.W.typeIn K (.ref f) = some (.type "function"))
    (h : codeAny (model prog w) (A.under (.builtin "type.__call__" ⟨.ref C :: vs, kw⟩)) (.call (.ref f) ⟨.ref (s.heap.objs.size + 1) :: vs, kw⟩) (PySem.W.InitBack (s.heap.objs.size + 1) R)
      { s with heap := (s.heap.push PySem.W.emptyDict).push (PySem.W.instObj C s.heap.objs.size) }) :
    codeAny (model prog w) A (.call (.ref C) ⟨vs, kw⟩) R s := by
  obtain ⟨hh, g, d, t, os⟩ := s
  exact PySem.W.make_core (PySem.W.makes_of X hm) (PySem.W.looks_findIn X hi) (fun self => PySem.W.bind_fn X self hf) (.inl rfl) h
end
def putF (f : Str) (v : V) : List (Str × V) → List (Str × V)
  | [] => [(f, v)]
  | (g, x) :: r => if g = f then (g, v) :: r else (g, x) :: putF f v r
theorem lookup_putF (f g : Str) (v : V) : ∀ fs : List (Str × V), (putF f v fs).lookup g = if g = f then some v else fs.lookup g
  | [] => by
    show List.lookup g [(f, v)] = _
    by_cases h : g = f
    · have hb : (g == f) = true := beq_iff_eq.mpr h
      simp only [List.lookup, hb, if_pos h]
    · have hb : (g == f) = false := beq_eq_false_iff_ne.mpr h
      simp only [List.lookup, hb, if_neg h]
  | (k, x) :: r => by
    have ih := lookup_putF f g v r
    rw [show putF f v ((k, x) :: r) = (if k = f then (k, v) :: r else (k, x) :: putF f v r) from rfl]
    by_cases hk : k = f
    · rw [if_pos hk]
      by_cases h : g = k
      · have hb : (g == k) = true := beq_iff_eq.mpr h
        simp only [List.lookup, hb, if_pos (h.trans hk)]
      · have hb : (g == k) = false := beq_eq_false_iff_ne.mpr h
        simp only [List.lookup, hb, if_neg (fun e : g = f => h (e.trans hk.symm))]
    · rw [if_neg hk]
      by_cases h : g = k
      · have hb : (g == k) = true := beq_iff_eq.mpr h
        simp only [List.lookup, hb, if_neg (fun e : g = f => hk (h.symm.trans e))]
      · have hb : (g == k) = false := beq_eq_false_iff_ne.mpr h
        simp only [List.lookup, hb]
        exact ih
theorem keys_putF (f : Str) (v : V) : ∀ fs : List (Str × V), f ∈ (putF f v fs).map (·.1) ∧ ∀ g, g ∈ fs.map (·.1) → g ∈ (putF f v fs).map (·.1)
  | [] => ⟨by simp [putF], fun g h => by simp at h⟩
  | (k, x) :: r => by
    obtain ⟨i1, i2⟩ := keys_putF f v r
    rw [show putF f v ((k, x) :: r) = (if k = f then (k, v) :: r else (k, x) :: putF f v r) from rfl]
    by_cases hk : k = f
    · rw [if_pos hk]
      subst hk
      exact ⟨by simp, fun g h => by simpa using h⟩
    · rw [if_neg hk]
      refine ⟨?_, fun g h => ?_⟩
      · rw [List.map_cons]
        exact List.mem_cons_of_mem _ i1
      · rw [List.map_cons] at h ⊢
        rcases List.mem_cons.mp h with e | e
        · exact List.mem_cons.mpr (.inl e)
        · exact List.mem_cons_of_mem _ (i2 g e)
theorem length_putF (f : Str) (v : V) : ∀ fs : List (Str × V), (putF f v fs).length ≤ fs.length + 1
  | [] => by simp [putF]
  | (k, x) :: r => by
    have ih := length_putF f v r
    rw [show putF f v ((k, x) :: r) = (if k = f then (k, v) :: r else (k, x) :: putF f v r) from rfl]
    by_cases hk : k = f
    · rw [if_pos hk, List.length_cons, List.length_cons]; omega
    · rw [if_neg hk, List.length_cons, List.length_cons]; omega
theorem RelO.some_of {v : V} {o : Option Value} (r : RelO (some v) o) : ∃ u, o = some u ∧ RelV v u := by
  cases o with
  | none => exact (show False from r).elim
  | some u => exact ⟨u, rfl, r⟩
theorem RelO.none_of {o : Option Value} (r : RelO none o) : o = none := by
  cases o with
  | none => rfl
  | some u => exact (show False from r).elim
theorem handed_of {v : V} {u : Value} (r : RelV v u) : PySem.W.handedIn u = true := by
  cases v with
  | non => cases (show u = Value.none from r); rfl
  | bl b => cases (show u = Value.bool b from r); rfl
  | int i => obtain ⟨t, e⟩ := (show ∃ t, u = Value.int i t from r); cases e; rfl
  | str x => obtain ⟨t, e⟩ := (show ∃ t, u = Value.str x t from r); cases e; rfl
  | byt b => obtain ⟨t, e⟩ := (show ∃ t, u = Value.bytes b t from r); cases e; rfl
  | flt b => obtain ⟨t, e⟩ := (show ∃ t, u = Value.float b t from r); cases e; rfl
  | ref a => cases (show u = Value.ref a from r); rfl
  | ty n => cases (show u = Value.type n from r); rfl
section
variable {P : Program} {w : World} {H H' : Hp} {h h' : Heap} {a C dx : Addr} {fs fs' : List (Str × V)}
theorem ins_get (hok : HOk P w H h) (e : H a = some (.ins C dx fs)) : ∃ mA, ObjM h a dx C mA ∧ (∀ f, RelO (fs.lookup f) (mA f)) ∧ PySem.Within mA (fs.map (·.1)) ∧ fs.length ≤ 1000 ∧ H dx = some (.own a) := by
  obtain ⟨d, z, ne, ob, mA, n, r, q⟩ := (show ObjOk P w H h a (.ins C dx fs) from hok a _ e)
  exact ⟨mA, ⟨ob, n, ne⟩, r, q, z, d⟩
end
structure Cls (K : PySem.W.Frag) (C : Addr) : Prop where
  pg : PySem.W.plainGet K C Str.empty = true
  hd : PySem.W.hasDictIn K C = true
  po : PySem.W.plainOver K C = true
  sa : PySem.W.findIn K (.ref C) "__setattr__" = some (some (.builtin "object.__setattr__"))
theorem Cls.get {K : PySem.W.Frag} {C : Addr} (c : Cls K C) (f : Str) : PySem.W.plainGet K C f = true := c.pg
def NoAttr (K : PySem.W.Frag) (C : Addr) (f : Str) : Prop := PySem.W.findIn K (.ref C) f = some none
theorem NoAttr.taker {K : PySem.W.Frag} {C : Addr} {f : Str} (n : NoAttr K C f) : PySem.W.takerIn K C f = some none := by
  unfold PySem.W.takerIn
  rw [show PySem.W.findIn K (.ref C) f = some none from n]
  rfl
structure Meth (K : PySem.W.Frag) (C : Addr) (m : Str) (f : Addr) : Prop where
  at_ : PySem.W.findIn K (.ref C) m = some (some (.ref f))
  fn : PySem.W.isFn K (.ref f) = true
  kp : PySem.W.keepIn K (.ref f) = true
section
variable {X : Cx} {pins : List (Addr × Obj)} {σ : St} {H : Hp} {s : Shared} {a C dx : Addr} {fs : List (Str × V)} {f : Str} {v : V} {A : Around} {E : Value → Shared → Prop}
theorem getattr_ok {b : Bool} {Q : Value → Shared → Prop} (I : Inv X pins σ H s) (e : H a = some (.ins C dx fs)) (c : Cls X.K C) (n : NoAttr X.K C f) (l : fs.lookup f = some v)
    (h : ∀ u s', Inv X pins σ H s' → RelV v u → Q u s') : wpAny (model X.prog X.w) A (getAttr (.ref a) f b) Q E s := by
  obtain ⟨mA, O, r, _, _, _⟩ := ins_get I.hok e
  obtain ⟨u, hu, ru⟩ := RelO.some_of (v := v) (o := mA f) (by rw [← l]; exact r f)
  exact get_map I.kIn O (c.get f) c.hd n hu (handed_of ru) (h u _ (I.tok _) ru)
theorem getmeth_ok {m : Str} {g : Addr} {pl : Sem Bool} {Q : Value × List Value → Shared → Prop} (I : Inv X pins σ H s) (e : H a = some (.ins C dx fs)) (c : Cls X.K C) (k : Meth X.K C m g) (l : fs.lookup m = none)
    (h : Q (.ref g, [.ref a]) s) : wpAny (model X.prog X.w) A (getMethod (.ref a) m pl) Q E s := by
  obtain ⟨mA, O, r, _, _, _⟩ := ins_get I.hok e
  have hn : mA m = none := RelO.none_of (by rw [← l]; exact r m)
  exact get_meth I.kIn O (c.get m) k.at_ k.fn hn h
theorem setattr_ok {y : V} {u : Value} {Q : Unit → Shared → Prop} (I : Inv X pins σ H s) (e : H a = some (.ins C dx fs)) (c : Cls X.K C) (n : NoAttr X.K C f) (hl : fs.length < 1000) (ry : RelV y u)
    (h : ∀ s', Inv X pins σ (upd H a (.ins C dx (putF f y fs))) s' → Q () s') : wpAny (model X.prog X.w) A (setAttr (.ref a) f u) Q E s := by
  obtain ⟨mA, O, r, wi, _, ho⟩ := ins_get I.hok e
  have hz : (fs.map (·.1)).length ≤ sizeLine := by rw [List.length_map, sizeLine_eq]; omega
  refine set_map I.kIn O c.sa c.po n.taker c.hd wi hz fun h' O' sb => h _ ?_
  have hd : ∃ o, h'.get? dx = some o := let ⟨o, _, _, e', _⟩ := O'.ns; ⟨o, e'⟩
  refine I.write (x := a) (e := dx) (by rw [e]; exact True.intro) (.inr ho) (fun b q hb z => (sb.2 b hb).trans z) hd ?_
  refine ⟨by rw [upd_ne O.ne]; exact ho, ?_, O.ne, O'.obj, _, O'.ns, fun g => ?_, fun g hg => ?_⟩
  · have := length_putF f y fs; omega
  · show RelO ((putF f y fs).lookup g) (if g = f then some u else mA g)
    rw [lookup_putF]
    by_cases q : g = f
    · rw [if_pos q, if_pos q]; exact ry
    · rw [if_neg q, if_neg q]; exact r g
  · by_cases q : g = f
    · rw [q]; exact (keys_putF f y fs).1
    · refine (keys_putF f y fs).2 g (wi g fun z => hg ?_)
      show (if g = f then some u else mA g) = none
      rw [if_neg q]; exact z
theorem Inv.made (I : Inv X pins σ H s) : Inv X pins σ (upd (upd H s.heap.objs.size (.own (s.heap.objs.size + 1))) (s.heap.objs.size + 1) (.ins C s.heap.objs.size []))
    { s with heap := (s.heap.push PySem.W.emptyDict).push (PySem.W.instObj C s.heap.objs.size) } := by
  have e1 : (s.heap.push PySem.W.emptyDict).get? s.heap.objs.size = some PySem.W.emptyDict := Heap.get?_push_size s.heap rfl
  have e2 : ((s.heap.push PySem.W.emptyDict).push (PySem.W.instObj C s.heap.objs.size)).get? (s.heap.objs.size + 1) = some (PySem.W.instObj C s.heap.objs.size) := by
    have := Heap.get?_push_size (s.heap.push PySem.W.emptyDict) (o := PySem.W.instObj C s.heap.objs.size) rfl
    rwa [Heap.size_push] at this
  have e3 : (s.heap.push PySem.W.emptyDict).Ns s.heap.objs.size (fun _ => none) := ⟨PySem.W.emptyDict, #[], _, e1, rfl, (fun e he => absurd he (by simp)), fun _ => rfl⟩
  have I1 := I.laid (a := s.heap.objs.size) (o := .own (s.heap.objs.size + 1)) (h' := s.heap.push PySem.W.emptyDict) (t' := s.toks) (fun b u q => Heap.get?_push_of_some _ q) (Nat.le_refl _) ⟨_, e1⟩
  refine I1.laid (a := s.heap.objs.size + 1) (o := .ins C s.heap.objs.size []) (t' := s.toks) (fun b u q => Heap.get?_push_of_some _ q) (Nat.le_of_eq (Heap.size_push _ _)) ?_
  have ne : s.heap.objs.size ≠ s.heap.objs.size + 1 := Nat.ne_of_lt (Nat.lt_succ_self _)
  refine ⟨by rw [upd_ne ne, upd_same], Nat.zero_le _, ne, e2, fun _ => none, (Heap.Ns1.of_empty e3).at fun o q => Heap.get?_push_of_some _ q, fun _ => True.intro, fun y hy => absurd rfl hy⟩
theorem attr_of {prog : Program} {w : World} {env : Env} {e : Expr} {f : Str} {pos : Pos} {s : Shared} {Q : Value → Shared → Prop} (hb : attributeBase e f env (eval e env) = eval e env)
    (h : wpAny (model prog w) A (eval e env) (fun o s₁ => wpAny (model prog w) A (getAttr o f true) Q E s₁) E s) : wpAny (model prog w) A (eval (.Attribute e f pos) env) Q E s :=
  Attribute_any_ h (by rw [arm_eval_Attribute, hb])
end
def tFld (K : PySem.W.Frag) (ta : TE) (f : Str) : TE := fun σ H Q => ta σ H fun x H1 => ∃ a C dx fs v, x = .ref a ∧ H1 a = some (.ins C dx fs) ∧ Cls K C ∧ NoAttr K C f ∧ fs.lookup f = some v ∧ Q v H1
def sFld (K : PySem.W.Frag) (ta tv : TE) (f : Str) : TS := fun D σ H => tv σ H fun y H1 => ta σ H1 fun x H2 => ∃ a C dx fs, x = .ref a ∧ H2 a = some (.ins C dx fs) ∧ Cls K C ∧ NoAttr K C f ∧ fs.length < 1000 ∧
  D.nx σ (upd H2 a (.ins C dx (putF f y fs)))
section
variable {X : Cx} {o e value : Expr} {f : Str} {pos pos' tpos : Pos} {ta tv : TE}
theorem pe_fld (he : PE X e ta) (hb : attributeBase e f X.env (eval e X.env) = eval e X.env) : PE X (.Attribute e f pos) (tFld X.K ta f) := by
  intro pins s σ H Q I h
  refine attr_of hb (thn (he pins s σ H _ I h) fun u s1 ⟨x, H1, I1, rx, a, C, dx, fs, v, ex, ea, c, n, l, q⟩ => ?_)
  subst ex
  obtain rfl : u = Value.ref a := rx
  exact getattr_ok I1 ea c n l fun u' s2 I2 ru => ⟨v, H1, I2, ru, q⟩
theorem ps_fld (ha : PE X o ta) (hv : PE X value tv) (hs : swapsWith value (some (.Attribute o f pos')) pos.line X.env = pure false) : PS X (.Assign [.Attribute o f pos'] value pos) (sFld X.K ta tv f) := by
  intro pins s σ H D I h
  refine plainObj_wpAny_Assign_Attribute (thn (hv pins s σ H _ I h) fun u s1 ⟨y, H1, I1, ry, q⟩ => thn (ha pins s1 σ H1 _ I1 q) fun ov s2 ⟨x, H2, I2, rx, a, C, dx, fs, ex, ea, c, n, l, q2⟩ => ?_) hs
  subst ex
  obtain rfl : ov = Value.ref a := rx
  exact setattr_ok I2 ea c n l ry fun s3 I3 => ⟨σ, _, I3, q2⟩
end
section
variable {X : Cx} {pins : List (Addr × Obj)} {σ : St} {H : Hp} {s : Shared} {A : Around} {E : Value → Shared → Prop} {Q : Value → Shared → Prop} {c : Value} {b : Bool}
inductive TyOf (K : PySem.W.Frag) (H : Hp) : V → Value → Prop where
  | non : TyOf K H .non (.type "NoneType")
  | bl (x : Bool) : TyOf K H (.bl x) (.type "bool")
  | int (i : Int) : TyOf K H (.int i) (.type "int")
  | str (x : Str) : TyOf K H (.str x) (.type "str")
  | flt (x : UInt64) : TyOf K H (.flt x) (.type "float")
  | lst {a : Addr} {xs : List V} (e : H a = some (.lst xs)) : TyOf K H (.ref a) (.type "list")
  | frz {a : Addr} {o : Obj} {xs : List V} (e : H a = some (.frz o (.lst xs))) : TyOf K H (.ref a) (.type "list")
  | tup {a : Addr} {xs : List V} (e : H a = some (.tup xs)) : TyOf K H (.ref a) (.type "tuple")
  | dK {a : Addr} {kvs : List (Key × V)} (e : H a = some (.dK kvs)) : TyOf K H (.ref a) (.type "dict")
  | dT {a : Addr} {kvs : List (List Key × V)} (e : H a = some (.dT kvs)) : TyOf K H (.ref a) (.type "dict")
  | ins {a C dx : Addr} {fs : List (Str × V)} (e : H a = some (.ins C dx fs)) (cl : Cls K C) (ha : PySem.W.findIn K (.ref C) "__class__" = some (some (.builtin "object.__class__")))
      (hn : PySem.W.specialIn K (.builtin "object.__class__") "__get__" = some (some (.builtin "getset_descriptor.__get__"))) (htk : PySem.W.takesIn K (.builtin "object.__class__") = some true)
      (hm : PySem.W.mroIn K C (.type "object") = some true) : TyOf K H (.ref a) (.ref C)
theorem isinst_ok {x : V} {u t : Value} (I : Inv X pins σ H s) (rx : RelV x u) (ty : TyOf X.K H x t) (e : PySem.W.kitOne X.K t c = some b) (h : ∀ tk, Q (.bool b) { s with toks := tk }) :
    wpAny (model X.prog X.w) A (call (.builtin "isinstance") [u, c]) Q E s := by
  cases ty with
  | non => cases (show u = Value.none from rx); exact PySem.W.kia_one PySem.W.kitx_none I.kIn True.intro e (fun z => nomatch z) h
  | bl y => cases (show u = Value.bool y from rx); exact PySem.W.kia_one PySem.W.kitx_bool I.kIn True.intro e (fun z => nomatch z) h
  | int i => obtain ⟨t, q⟩ := (show ∃ t, u = Value.int i t from rx); cases q; exact PySem.W.kia_one PySem.W.kitx_int I.kIn True.intro e (fun z => nomatch z) h
  | str y => obtain ⟨t, q⟩ := (show ∃ t, u = Value.str y t from rx); cases q; exact PySem.W.kia_one PySem.W.kitx_str I.kIn True.intro e (fun z => nomatch z) h
  | flt y => obtain ⟨t, q⟩ := (show ∃ t, u = Value.float y t from rx); cases q; exact PySem.W.kia_one PySem.W.kitx_float I.kIn True.intro e (fun z => nomatch z) h
  | @lst a xs ea =>
    cases (show u = Value.ref a from rx)
    obtain ⟨_, _, n, _, h1⟩ := (show ObjOk X.prog X.w H s.heap a (.lst xs) from I.hok a _ ea)
    exact PySem.W.kia_one PySem.W.kitx_list I.kIn ⟨_, h1, rfl⟩ e (fun z => nomatch z) h
  | @frz a ob xs ea =>
    cases (show u = Value.ref a from rx)
    obtain ⟨_, _, _, n, _, h1⟩ := (show ObjOk X.prog X.w H s.heap a (.frz ob (.lst xs)) from I.hok a _ ea)
    exact PySem.W.kia_one PySem.W.kitx_list I.kIn ⟨_, h1, rfl⟩ e (fun z => nomatch z) h
  | @tup a xs ea =>
    cases (show u = Value.ref a from rx)
    obtain ⟨_, _, _, p⟩ := (show ObjOk X.prog X.w H s.heap a (.tup xs) from I.hok a _ ea)
    obtain ⟨o, h1, h2, _⟩ := p
    exact PySem.W.kia_one PySem.W.kitx_tuple I.kIn ⟨o, h1, h2⟩ e (fun z => nomatch z) h
  | @dK a kvs ea =>
    cases (show u = Value.ref a from rx)
    obtain ⟨_, _, vs, _, p⟩ := (show ObjOk X.prog X.w H s.heap a (.dK kvs) from I.hok a _ ea)
    obtain ⟨o, es, ep, h1, h2, _⟩ := p
    exact PySem.W.kia_one PySem.W.kitx_dict I.kIn ⟨o, h1, h2.1⟩ e (fun z => nomatch z) h
  | @dT a kvs ea =>
    cases (show u = Value.ref a from rx)
    obtain ⟨_, _, xs, _, o, es, ep, h1, h2, _⟩ := (show ObjOk X.prog X.w H s.heap a (.dT kvs) from I.hok a _ ea)
    exact PySem.W.kia_one PySem.W.kitx_dict I.kIn ⟨o, h1, h2.1⟩ e (fun z => nomatch z) h
  | @ins a C dx fs ea cl ha hn htk hm =>
    cases (show u = Value.ref a from rx)
    obtain ⟨mA, O, _⟩ := ins_get I.hok ea
    obtain ⟨od, J, _⟩ := O.look
    exact PySem.W.kia_one (PySem.W.kitx_own (cl.get _) cl.hd ha hn htk hm) I.kIn J e (fun z => nomatch z) h
end
end L2
namespace L2
open PySem PySem.Spec PyProof.Rows
structure Room (k : Nat) (A : Around) : Prop where
  hd : A.handled = none
  dp : A.depth + 3 * k + 5 < recursionLimit
  un : A.units + 16 * k + 200 < cLine
  gd : A.guards = some []
theorem Room.mono {j k : Nat} {A : Around} (r : Room k A) (h : j ≤ k) : Room j A := ⟨r.hd, by have := r.dp; omega, by have := r.un; omega, r.gd⟩
theorem Room.deeper {k : Nat} {A : Around} (r : Room (k + 1) A) (env : Env) : Room k (A.deeper env) :=
  ⟨r.hd, by have := r.dp; show A.depth + 1 + 3 * k + 5 < _; omega, by have := r.un; show A.units + 3 + 16 * k + 200 < _; omega, r.gd⟩
theorem make_depth {A : Around} {C : Addr} {us : List Value} {kw : List (Str × Value)} : (A.under (.builtin "type.__call__" ⟨.ref C :: us, kw⟩)).depth = A.depth + 1 := by
  first | rfl | simp [Around.under, Code.weight, Code.isCreation, Code.isGuard, Code.isCaller, Code.frames, Code.isFrame, guardIds]
theorem make_units {A : Around} {C : Addr} {us : List Value} {kw : List (Str × Value)} : (A.under (.builtin "type.__call__" ⟨.ref C :: us, kw⟩)).units = A.units + 1 := by
  first | rfl | simp [Around.under, Code.cUnits, Code.frames, Code.isFrame]
theorem Room.make {k : Nat} {A : Around} (r : Room (k + 1) A) (C : Addr) (us : List Value) (kw : List (Str × Value)) : Room k (A.under (.builtin "type.__call__" ⟨.ref C :: us, kw⟩)) :=
  ⟨r.hd, by have := r.dp; rw [make_depth]; omega, by have := r.un; rw [make_units]; omega, by first | (simp [Around.under, Code.guards, Code.isGuard, guardIds, pushGuards, r.gd]; done) | (unfold Around.under; simp [Code.guards, Code.isGuard, guardIds, pushGuards, r.gd]; done) | (unfold Around.under; dsimp only; rw [r.gd]; rfl)⟩
theorem Room.depth {k : Nat} {A : Around} (r : Room k A) : A.depth < recursionLimit := by have := r.dp; omega
theorem Room.units {k : Nat} {A : Around} (r : Room k A) : A.units + 64 < cLine := by have := r.un; omega
def tNil : TA := fun _ H Q => Q [] H
def tCons (ta : TE) (tr : TA) : TA := fun σ H Q => ta σ H fun x H1 => tr σ H1 fun xs H2 => Q (x :: xs) H2
section
variable {X : Cx} {e : Expr} {es : List Expr} {te : TE} {t : TA} {pos : Pos}
theorem pa_nil : PA X [] tNil := fun _ _ _ _ H Q I h => Calls.spliced_nil ⟨[], H, I, .nil, h⟩
theorem pa_cons (ha : PE X e te) (hr : PA X es t) (hs : starEach (e :: es) X.env = (false, eval e X.env) :: starEach es X.env := by rfl) : PA X (e :: es) (tCons te t) := by
  intro pos pins s σ H Q I h
  rw [hs]
  show wpAny _ _ (spliced ((false, eval e X.env) :: backTo pos (starEach es X.env))) _ _ s
  refine Calls.spliced_cons (thn (ha pins s σ H _ I h) fun u s1 ⟨x, H1, I1, r1, q1⟩ => ?_)
  exact thn (hr pos pins s1 σ H1 _ I1 q1) fun us s2 ⟨xs, H2, I2, r2, q2⟩ => ⟨x :: xs, H2, I2, .cons r1 r2, q2⟩
def tTup (t : TA) : TE := fun σ H Q => t σ H fun xs H1 => xs.length ≤ sizeLine ∧ ∀ p, H1 p = none → Q (.ref p) (upd H1 p (.tup xs))
def tLst (t : TA) : TE := fun σ H Q => t σ H fun xs H1 => xs.length ≤ sizeLine ∧ ∀ p, H1 p = none → Q (.ref p) (upd H1 p (.lst xs))
theorem pe_tup {x1} (h : PA X es t) : PE X (.Tuple es x1 pos) (tTup t) := by
  intro pins s σ H Q I hq
  refine wpAny_Tuple_spliced (thn (h pos pins s σ H _ I hq) fun us s1 ⟨xs, H1, I1, r, z, q⟩ => ⟨by rw [← r.length]; exact z, ?_⟩)
  have hf : H1 s1.heap.objs.size = none := I1.hok.fresh (Nat.le_refl _)
  refine ⟨.ref s1.heap.objs.size, upd H1 s1.heap.objs.size (.tup xs), I1.laid (t' := s1.toks) (fun b u e => Heap.get?_push_of_some _ e) (Nat.le_refl _) ?_, rfl, q _ hf⟩
  exact ⟨z, us, r, ⟨_, Heap.get?_push_size _ rfl, rfl, _, rfl⟩⟩
theorem pe_lst (h : PA X es t) : PE X (.List es pos) (tLst t) := by
  intro pins s σ H Q I hq
  refine wpAny_List_spliced (thn (h pos pins s σ H _ I hq) fun us s1 ⟨xs, H1, I1, r, z, q⟩ => ⟨by rw [← r.length]; exact z, ?_⟩)
  have hf : H1 s1.heap.objs.size = none := I1.hok.fresh (Nat.le_refl _)
  refine ⟨.ref s1.heap.objs.size, upd H1 s1.heap.objs.size (.lst xs), I1.laid (t' := s1.toks) (fun b u e => Heap.get?_push_of_some _ e) (Nat.le_refl _) ?_, rfl, q _ hf⟩
  exact ⟨z, us, 0, r, Heap.get?_push_size _ rfl⟩
end
abbrev Sp := List V → Hp → VK → XK → Prop
abbrev CXT := List Env → Hp → Shared → XK → Value → Shared → Prop
structure Env0 (P : Program) (w : World) (K : PySem.W.Frag) (mg : Str → Option Value) (base : Heap) (A : Around) (outer : List Env) (s : Shared) (H : Hp) : Prop where
  frames : A.frames = some outer
  mod : Mod K mg base
  bs : ∀ b o, base.get? b = some o → s.heap.get? b = some o ∧ H b = none
  bsz : base.objs.size ≤ s.heap.objs.size
  funs : s.heap.FunFrames base outer
  frf : ∀ b ∈ frs outer, H b = none
  hok : HOk P w H s.heap
  bare : AllBare s.gens
def CE (outer : List Env) (P : Program) (w : World) (H : Hp) (s : Shared) (Q : VK) (u : Value) (s' : Shared) : Prop :=
  ∃ v H', s'.os = s.os ∧ AllBare s'.gens ∧ Un (frs outer) [] H H' s.heap s'.heap ∧ HOk P w H' s'.heap ∧ RelV v u ∧ Q v H'
def CR (CX : CXT) (outer : List Env) (P : Program) (w : World) (H : Hp) (s : Shared) (Q : VK) (E : XK) (r : Result) (s' : Shared) : Prop :=
  match r with
  | .ok (.ret u) => CE outer P w H s Q u s'
  | .ok _ => False
  | .error e => CX outer H s E e s'
structure FnOk (P : Program) (w : World) (K : PySem.W.Frag) (mg : Str → Option Value) (base : Heap) (CX : CXT) (k : Nat) (f : Addr) (fd : FuncData) (ps : List Str) (sp : Sp) : Prop where
  len : ∀ vs H Q E, sp vs H Q E → vs.length = ps.length
  run : ∀ (A : Around) (outer : List Env) (s : Shared) (H : Hp) (args : Args) (us : List Value) (vs : List V) (Q : VK) (E : XK), Room k A → Env0 P w K mg base A outer s H → BindsTo s fd args (ps.zip us) → Vals vs us → sp vs H Q E →
    codeAny (model P w) A (.call (.ref f) args) (CR CX outer P w H s Q E) s
theorem Env0.make {P : Program} {w : World} {K : PySem.W.Frag} {mg : Str → Option Value} {base : Heap} {A : Around} {outer : List Env} {s : Shared} {H : Hp} (e : Env0 P w K mg base A outer s H) (C : Addr) (us : List Value) (kw : List (Str × Value)) :
    Env0 P w K mg base (A.under (.builtin "type.__call__" ⟨.ref C :: us, kw⟩)) outer s H := ⟨by first | exact e.frames | (simpa [Around.under, Code.envs, Code.isFrame, pushEnvs] using e.frames), e.mod, e.bs, e.bsz, e.funs, e.frf, e.hok, e.bare⟩
section
variable {X : Cx} {pins : List (Addr × Obj)} {σ : St} {H : Hp} {s s' : Shared}
theorem Inv.env0 (I : Inv X pins σ H s) : Env0 X.prog X.w X.K X.mg X.base X.A X.stack s H :=
  ⟨I.ok.frames, I.ok.mod, I.bs, Nat.le_trans I.ok.bsz I.sz, I.stack, I.stkFree, I.hok, I.bare⟩
theorem Inv.after {Q : VK} {u : Value} (I : Inv X pins σ H s) (h : CE X.stack X.prog X.w H s Q u s') : EP X pins σ Q u s' := by
  obtain ⟨v, H', os, bare, un, hok, r, q⟩ := h
  obtain ⟨hh, g, d, t, os'⟩ := s'
  obtain rfl : os' = s.os := os
  exact ⟨v, H', I.call (h' := hh) (g' := g) (d' := d) (t' := t) (ch := []) un hok bare (fun b z => absurd z (by simp)), r, q⟩
end
def tCall (sp : Sp) (dvs : List V) (E : XK) (t : TA) : TE := fun σ H Q => t σ H fun vs H1 => sp (vs ++ dvs) H1 Q E
def tMeth (C : Addr) (m : Str) (sp : Sp) (dvs : List V) (E : XK) (ta : TE) (t : TA) : TE := fun σ H Q => ta σ H fun x H1 => ∃ a dx fs, x = .ref a ∧ H1 a = some (.ins C dx fs) ∧ fs.lookup m = none ∧
  t σ H1 fun vs H2 => sp (x :: (vs ++ dvs)) H2 Q E
def tMake (C : Addr) (sp : Sp) (dvs : List V) (E : XK) (t : TA) : TE := fun σ H Q => t σ H fun vs H1 => ∀ x dx, H1 x = none → H1 dx = none → dx ≠ x →
  sp (.ref x :: (vs ++ dvs)) (upd (upd H1 dx (.own x)) x (.ins C dx [])) (fun v H2 => v = .non ∧ Q (.ref x) H2) E
def Binds (K : PySem.W.Frag) (fd : FuncData) (ps : List Str) (ds : List Value) : Prop :=
  ∀ (s : Shared) (us : List Value), K.In s.heap → (us ++ ds).length = ps.length → BindsTo s fd ⟨us, []⟩ (ps.zip (us ++ ds))
theorem Binds.all {K : PySem.W.Frag} {fd : FuncData} {ps : List Str} (h : ∀ us : List Value, us.length = ps.length → bindArgs fd ⟨us, []⟩ = pure (ps.zip us)) : Binds K fd ps [] := fun s us _ hl => by
  rw [List.append_nil] at hl ⊢
  exact .of_eq (h us hl)
def Passes (CX : CXT) (X : Cx) (E : XK) : Prop := ∀ (pins : List (Addr × Obj)) (σ : St) (H : Hp) (s : Shared) (e : Value) (s' : Shared), Inv X pins σ H s → CX X.stack H s E e s' → X.xe e s'
section
variable {X : Cx} {CX : CXT} {k : Nat} {f C : Addr} {fd : FuncData} {ps : List Str} {sp : Sp} {dvs : List V} {ds : List Value} {E : XK} {x m : Str} {p pos apos : Pos} {e o : Expr} {es : List Expr} {ta : TE} {t : TA}
theorem run_fn {pins : List (Addr × Obj)} {σ : St} {H : Hp} {s : Shared} {Q : VK} {us : List Value} {vs : List V} (F : FnOk X.prog X.w X.K X.mg X.base CX k f fd ps sp) (hr : Room k X.A) (hb : Binds X.K fd ps ds) (hd : Vals dvs ds) (hx : Passes CX X E)
    (I : Inv X pins σ H s) (r : Vals vs us) (h : sp (vs ++ dvs) H Q E) : wpAny (model X.prog X.w) X.A (call (.ref f) us) (EP X pins σ Q) X.xe s := by
  have r2 : Vals (vs ++ dvs) (us ++ ds) := r.append hd
  have hl : (us ++ ds).length = ps.length := by rw [← r2.length]; exact F.len _ _ _ _ h
  refine wpAny_call (codeAny_mono (F.run X.A X.stack s H ⟨us, []⟩ (us ++ ds) (vs ++ dvs) Q E hr I.env0 (hb s us I.kIn hl) r2 h) fun r s' hq => ?_)
  cases r with
  | error e => exact hx pins σ H s e s' I hq
  | ok fl =>
    cases fl with
    | ret u => exact I.after hq
    | next => exact False.elim hq
    | brk => exact False.elim hq
    | cont => exact False.elim hq
theorem pe_call (F : FnOk X.prog X.w X.K X.mg X.base CX k f fd ps sp) (hr : Room k X.A) (hg : Gl X x) (hm : X.mg x = some (.ref f)) (hk : PySem.W.keepIn X.K (.ref f) = true) (hb : Binds X.K fd ps ds) (hd : Vals dvs ds) (hx : Passes CX X E)
    (ha : PA X (e :: es) t) (hdb : (x == ("__debug__" : Str)) = false := by decide) (he : starEach (e :: es) X.env = (false, eval e X.env) :: starEach es X.env := by rfl) (hpl : (backTo pos (starEach es X.env)).any (·.1) = false := by rfl) :
    PE X (.Call (.Name x p) (e :: es) [] pos) (tCall sp dvs E t) := by
  intro pins s σ H Q I h
  refine wpAny_Call_Name_kw (ld_glob I hg hm ?_ hdb)
  refine PySem.W.callWith_K (h₀ := X.base) I.ok.mod.kin hk (thn (ha pos pins s σ H _ I h) fun us s1 ⟨vs, H1, I1, r, q⟩ => ⟨I1.kIn, ?_⟩) he hpl
  exact run_fn F hr hb hd hx I1 r q
theorem pe_meth {pl : Sem Bool} (he : PE X o ta) (c : Cls X.K C) (hm : Meth X.K C m f) (F : FnOk X.prog X.w X.K X.mg X.base CX k f fd ps sp) (hr : Room k X.A) (hb : Binds X.K fd ps ds) (hd : Vals dvs ds) (hx : Passes CX X E) (ha : PA X (e :: es) t)
    (hst : starEach (e :: es) X.env = (false, eval e X.env) :: starEach es X.env := by rfl) (hpl : (backTo pos (starEach es X.env)).any (·.1) = false := by rfl)
    (ht : eval (.Call (.Attribute o m apos) (e :: es) [] pos) X.env = (do
      let ov ← eval o X.env
      standAt apos.atName
      let (f, first) ← holding [ov] (getMethod ov m pl)
      callWith pos f first (backTo pos (starEach (e :: es) X.env)) (backToKw pos (keywordEach [] X.env))) := by rfl) :
    PE X (.Call (.Attribute o m apos) (e :: es) [] pos) (tMeth C m sp dvs E ta t) := by
  intro pins s σ H Q I h
  refine PySem.W.methodCall_KW (pl := pl) (thn (he pins s σ H _ I h) fun u s1 ⟨x, H1, I1, rx, a, dx, fs, ex, ea, l, q⟩ => ?_) ht
  subst ex
  obtain rfl : u = Value.ref a := rx
  refine getmeth_ok I1 ea c hm l ?_
  refine PySem.W.callWith_K (first := [.ref a]) (h₀ := X.base) I.ok.mod.kin hm.kp (thn (ha pos pins s1 σ H1 _ I1 q) fun us s2 ⟨vs, H2, I2, r, q2⟩ => ⟨I2.kIn, ?_⟩) hst hpl
  exact run_fn (us := .ref a :: us) (vs := .ref a :: vs) F hr hb hd hx I2 (.cons rfl r) q2
theorem pe_meth0 {pl : Sem Bool} (he : PE X o ta) (c : Cls X.K C) (hm : Meth X.K C m f) (F : FnOk X.prog X.w X.K X.mg X.base CX k f fd ps sp) (hr : Room k X.A) (hb : Binds X.K fd ps ds) (hd : Vals dvs ds) (hx : Passes CX X E)
    (ht : eval (.Call (.Attribute o m apos) [] [] pos) X.env = (do
      let ov ← eval o X.env
      standAt apos.atName
      let (f, first) ← holding [ov] (getMethod ov m pl)
      callWith pos f first (backTo pos (starEach [] X.env)) (backToKw pos (keywordEach [] X.env))) := by rfl) :
    PE X (.Call (.Attribute o m apos) [] [] pos) (tMeth C m sp dvs E ta tNil) := by
  intro pins s σ H Q I h
  refine PySem.W.methodCall_KW (pl := pl) (thn (he pins s σ H _ I h) fun u s1 ⟨x, H1, I1, rx, a, dx, fs, ex, ea, l, q⟩ => ?_) ht
  subst ex
  obtain rfl : u = Value.ref a := rx
  refine getmeth_ok I1 ea c hm l ?_
  exact PySem.W.callWith_K0 (first := [.ref a]) I1.kIn hm.kp (run_fn (us := [.ref a]) (vs := [.ref a]) F hr hb hd hx I1 (.cons rfl .nil) q)
structure Mk (K : PySem.W.Frag) (C f : Addr) : Prop where
  makes : PySem.W.makesIn K C = true
  init : PySem.W.findIn K (.ref C) "__init__" = some (some (.ref f))
  fn : PySem.W.isFn K (.ref f) = true
  kp : PySem.W.keepIn K (.ref C) = true
theorem run_make {pins : List (Addr × Obj)} {σ : St} {H : Hp} {s : Shared} {Q : VK} {us : List Value} {vs : List V} (M : Mk X.K C f) (F : FnOk X.prog X.w X.K X.mg X.base CX k f fd ps sp) (hr : Room (k + 1) X.A) (hb : Binds X.K fd ps ds) (hd : Vals dvs ds)
    (hx : Passes CX X E) (I : Inv X pins σ H s) (r : Vals vs us)
    (h : ∀ x dx, H x = none → H dx = none → dx ≠ x → sp (.ref x :: (vs ++ dvs)) (upd (upd H dx (.own x)) x (.ins C dx [])) (fun v H2 => v = .non ∧ Q (.ref x) H2) E) :
    wpAny (model X.prog X.w) X.A (call (.ref C) us) (EP X pins σ Q) X.xe s := by
  have hq := h (s.heap.objs.size + 1) s.heap.objs.size (I.hok.fresh (Nat.le_succ _)) (I.hok.fresh (Nat.le_refl _)) (Nat.ne_of_lt (Nat.lt_succ_self _))
  have I2 := Inv.made (C := C) I
  have r2 : Vals (V.ref (s.heap.objs.size + 1) :: (vs ++ dvs)) (Value.ref (s.heap.objs.size + 1) :: (us ++ ds)) := .cons rfl (r.append hd)
  have hl : (Value.ref (s.heap.objs.size + 1) :: us ++ ds).length = ps.length := by
    have e := r2.length
    rw [F.len _ _ _ _ hq] at e
    exact e.symm
  refine wpAny_call (make_map (f := f) I.kIn M.makes M.init (beq_iff_eq.mp M.fn) (codeAny_mono (F.run _ X.stack _ _ ⟨Value.ref (s.heap.objs.size + 1) :: us, []⟩ (Value.ref (s.heap.objs.size + 1) :: (us ++ ds)) _ _ E (hr.make C us [])
    (I2.env0.make C us []) (hb _ (Value.ref (s.heap.objs.size + 1) :: us) I2.kIn hl) r2 hq) fun r s' hq' => ?_))
  cases r with
  | error e => exact hx pins σ _ _ e s' I2 hq'
  | ok fl =>
    cases fl with
    | ret u =>
      obtain ⟨v, H', I3, rv, ev, q3⟩ := I2.after hq'
      subst ev
      exact ⟨rv, ⟨V.ref (s.heap.objs.size + 1), H', I3, rfl, q3⟩⟩
    | next => exact False.elim hq'
    | brk => exact False.elim hq'
    | cont => exact False.elim hq'
theorem pe_make (M : Mk X.K C f) (F : FnOk X.prog X.w X.K X.mg X.base CX k f fd ps sp) (hr : Room (k + 1) X.A) (hg : Gl X x) (hm : X.mg x = some (.ref C)) (hb : Binds X.K fd ps ds) (hd : Vals dvs ds) (hx : Passes CX X E)
    (ha : PA X (e :: es) t) (hdb : (x == ("__debug__" : Str)) = false := by decide) (he : starEach (e :: es) X.env = (false, eval e X.env) :: starEach es X.env := by rfl) (hpl : (backTo pos (starEach es X.env)).any (·.1) = false := by rfl) :
    PE X (.Call (.Name x p) (e :: es) [] pos) (tMake C sp dvs E t) := by
  intro pins s σ H Q I h
  refine wpAny_Call_Name_kw (ld_glob I hg hm ?_ hdb)
  refine PySem.W.callWith_K (h₀ := X.base) I.ok.mod.kin M.kp (thn (ha pos pins s σ H _ I h) fun us s1 ⟨vs, H1, I1, r, q⟩ => ⟨I1.kIn, ?_⟩) he hpl
  exact run_make M F hr hb hd hx I1 r q
theorem pe_make0 (M : Mk X.K C f) (F : FnOk X.prog X.w X.K X.mg X.base CX k f fd ps sp) (hr : Room (k + 1) X.A) (hg : Gl X x) (hm : X.mg x = some (.ref C)) (hb : Binds X.K fd ps ds) (hd : Vals dvs ds) (hx : Passes CX X E)
    (hdb : (x == ("__debug__" : Str)) = false := by decide) : PE X (.Call (.Name x p) [] [] pos) (tMake C sp dvs E tNil) := by
  intro pins s σ H Q I h
  refine wpAny_Call_Name_kw (ld_glob I hg hm ?_ hdb)
  exact PySem.W.callWith_K0 I.kIn M.kp (run_make (us := []) M F hr hb hd hx I .nil h)
end
section
variable {X : Cx} {CX : CXT} {k : Nat} {f C : Addr} {fd : FuncData} {ps ks : List Str} {sp : Sp} {E : XK} {x m : Str} {p pos apos kpos : Pos} {e o : Expr} {es : List Expr} {kws : List Keyword} {te ta : TE} {t tk : TA} {nm : Option Str}
variable {g : List Value → List Value → List Value} {gV : List V → List V → List V}
end
structure FnScope (N P : List Str) (sc : Scope) : Prop where
  kind : sc.kind = .function
  co : sc.isCoroutine = false
  gen : sc.isGenerator = false
  nd : N.Nodup
  pre : N.take P.length = P
  par : ∀ x ∈ P, sc.names.lookup x = some .local ∨ sc.names.lookup x = some .cell
  nofree : ∀ y ∈ sc.names, y.2 ≠ .free
theorem bindL_out {kindOf : Str → Option NameKind} {x : Str} : ∀ {binds : List (Str × Value)} {m : Str → Option Value}, (∀ v, (x, v) ∉ binds) → bindL kindOf binds m x = m x
  | [], _, _ => rfl
  | (n, v) :: r, m, h => by
    unfold bindL
    rw [bindL_out fun w hw => h w (List.mem_cons_of_mem _ hw)]
    split
    · have : x ≠ n := by rintro rfl; exact h v List.mem_cons_self
      simp [this]
    · rfl
theorem bindC_out {kindOf : Str → Option NameKind} {x : Str} : ∀ {binds : List (Str × Value)} {m : Str → Option Value}, (∀ v, (x, v) ∉ binds) → bindC kindOf binds m x = m x
  | [], _, _ => rfl
  | (n, v) :: r, m, h => by
    unfold bindC
    rw [bindC_out fun w hw => h w (List.mem_cons_of_mem _ hw)]
    split
    · rfl
    · have : x ≠ n := by rintro rfl; exact h v List.mem_cons_self
      simp [this]
theorem bindL_get {kindOf : Str → Option NameKind} {x : Str} {v : Value} : ∀ {P : List Str} {vs : List Value} {i : Nat} {m : Str → Option Value}, P.Nodup → P[i]? = some x → vs[i]? = some v → kindOf x = some .local →
    bindL kindOf (P.zip vs) m x = some v
  | [], _, _, _, _, h, _, _ => by simp at h
  | _ :: _, [], _, _, _, _, h, _ => by simp at h
  | p :: P, w :: vs, 0, m, nd, h1, h2, hk => by
    simp at h1 h2; subst h1; subst h2
    show bindL kindOf ((p, w) :: P.zip vs) m p = _
    unfold bindL
    rw [bindL_out fun v hv => (List.nodup_cons.mp nd).1 (List.of_mem_zip hv).1, if_pos hk]
    simp
  | p :: P, w :: vs, i + 1, m, nd, h1, h2, hk => by
    show bindL kindOf ((p, w) :: P.zip vs) m x = _
    unfold bindL
    exact bindL_get (i := i) (List.nodup_cons.mp nd).2 (by simpa using h1) (by simpa using h2) hk
theorem bindC_get {kindOf : Str → Option NameKind} {x : Str} {v : Value} : ∀ {P : List Str} {vs : List Value} {i : Nat} {m : Str → Option Value}, P.Nodup → P[i]? = some x → vs[i]? = some v → kindOf x ≠ some .local →
    bindC kindOf (P.zip vs) m x = some v
  | [], _, _, _, _, h, _, _ => by simp at h
  | _ :: _, [], _, _, _, _, h, _ => by simp at h
  | p :: P, w :: vs, 0, m, nd, h1, h2, hk => by
    simp at h1 h2; subst h1; subst h2
    show bindC kindOf ((p, w) :: P.zip vs) m p = _
    unfold bindC
    rw [bindC_out fun v hv => (List.nodup_cons.mp nd).1 (List.of_mem_zip hv).1, if_neg hk]
    simp
  | p :: P, w :: vs, i + 1, m, nd, h1, h2, hk => by
    show bindC kindOf ((p, w) :: P.zip vs) m x = _
    unfold bindC
    exact bindC_get (i := i) (List.nodup_cons.mp nd).2 (by simpa using h1) (by simpa using h2) hk
def start (N : List Str) (vs : List V) : St := vs.map some ++ List.replicate (N.length - vs.length) none
def cxOf (CX : CXT) (P : Program) (w : World) (K : PySem.W.Frag) (mg : Str → Option Value) (base : Heap) (N : List Str) (qual : Str) (scope : Scope) (f : Addr) (cd : Value) (A : Around) (outer : List Env) (s : Shared) (H : Hp) (E : XK) : Cx where
  prog := P
  w := w
  K := K
  mg := mg
  base := base
  A := A.deeper (envOfC qual scope s.heap.objs.size f cd)
  N := N
  s₀ := s
  H₀ := H
  env := envOfC qual scope s.heap.objs.size f cd
  outer := outer
  stack := envOfC qual scope s.heap.objs.size f cd :: outer
  ex := []
  calm := true
  fn := fun _ => true
  pn := []
  xe := fun e s' => wpAny (model P w) (A.deeper (envOfC qual scope s.heap.objs.size f cd)) (leaving (envOfC qual scope s.heap.objs.size f cd) e) (fun _ s'' => CX outer H s E e s'') (fun e' s'' => CX outer H s E e' s'') s'
theorem cell_has {sc : Scope} {n : Nat} {x : Str} (h : sc.names.lookup x = some .cell) : ∃ c, (cellsFrom n sc.names []).lookup x = some c := by
  have q := PySem.W.cellsFrom_some sc.names n [] (.inl h)
  exact Option.isSome_iff_exists.mp q
theorem inv_start {CX : CXT} {P : Program} {w : World} {K : PySem.W.Frag} {mg : Str → Option Value} {base : Heap} {N ps : List Str} {qual : Str} {scope : Scope} {f : Addr} {cd : Value} {A : Around} {outer : List Env} {s s1 : Shared} {H : Hp} {E : XK} {us : List Value} {vs : List V}
    (S : FnScope N ps scope) (hd : A.handled = none) (e0 : Env0 P w K mg base A outer s H) (hl : vs.length = ps.length) (r : Vals vs us)
    (x : InCallC s s.heap.objs.size (bindL (envOfC qual scope s.heap.objs.size f cd).kindOf (ps.zip us) fun _ => none) (cellsFrom (s.heap.objs.size + 1) scope.names []) (bindC (envOfC qual scope s.heap.objs.size f cd).kindOf (ps.zip us) fun _ => none) s1) :
    Inv (cxOf CX P w K mg base N qual scope f cd A outer s H E) [] (start N vs) H s1 := by
  have hpl : ps.length ≤ N.length := by have := congrArg List.length S.pre; rw [List.length_take] at this; omega
  obtain ⟨h1, tk, rfl, hk⟩ := x.done
  have noA : ∀ b : Addr, b ∉ (cxOf CX P w K mg base N qual scope f cd A outer s H E).ex := fun b z => absurd (show b ∈ ([] : List Addr) from z) (by simp)
  refine ⟨⟨e0.mod, S.kind, rfl, rfl, Nat.le_refl _, fun y z c h1 h2 => ?_, fun y hy => ?_, fun y c _ h => ?_, fun _ => hd, Around.frames_deeper e0.frames, .inr ⟨rfl, rfl⟩, fun b z => absurd z (noA b), e0.bs, e0.bsz, fun b _ _ => noA b, fun b z => absurd z (noA b), e0.funs, e0.frf⟩,
    rfl, e0.bare, Un.kept hk, ⟨_, x.toInCall.ns, fun i y v h1 h2 h3 => ?_⟩, fun y c h => ⟨_, x.cell y c h⟩, e0.hok.fresh (Nat.le_refl _), fun y c h => ?_, fun p hp => absurd (show p ∈ ([] : List (Addr × Obj)) from hp) (by simp), e0.hok.kept hk, ?_⟩
  · exact name_of_addr x.apart (PySem.mem_of_lookup h1) (PySem.mem_of_lookup h2)
  · have hy : scope.names.lookup y = some .cell ∨ scope.names.lookup y = some .free := hy
    rcases hy with hy | hy
    · exact cell_has hy
    · exact absurd rfl (S.nofree _ (PySem.mem_of_lookup hy))
  · exact Nat.le_of_lt (x.above y c (PySem.mem_of_lookup h))
  · have hi : i < vs.length := by
      unfold start at h2
      by_cases hi : i < vs.length
      · exact hi
      · rw [List.getElem?_append_right (by simpa using hi)] at h2
        rw [List.getElem?_replicate] at h2
        split at h2 <;> cases h2
    have ha : vs[i]? = some v := by
      unfold start at h2
      rw [List.getElem?_append_left (by simpa using hi), List.getElem?_map] at h2
      cases e : vs[i]? with
      | none => rw [e] at h2; cases h2
      | some a => rw [e] at h2; cases h2; rfl
    obtain ⟨u, hu, rv⟩ := r.get ha
    have hp : ps[i]? = some y := by
      rw [← S.pre, List.getElem?_take_of_lt (by omega)]; exact h1
    have ndP : ps.Nodup := by rw [← S.pre]; exact S.nd.sublist (List.take_sublist _ _)
    refine ⟨u, rv, ?_⟩
    rcases S.par y (List.mem_of_getElem? hp) with k | k
    · exact .inl ⟨k, bindL_get ndP hp hu k⟩
    · obtain ⟨c, e⟩ := cell_has (n := s.heap.objs.size + 1) k
      refine .inr ⟨.inl k, c, e, ?_⟩
      have q := x.cell y c e
      rw [bindC_get ndP hp hu (by show scope.names.lookup y ≠ _; rw [k]; decide)] at q
      exact q
  · exact e0.hok.fresh (Nat.le_of_lt (x.above y c (PySem.mem_of_lookup h)))
  · unfold start
    show _ = N.length
    rw [List.length_append, List.length_map, List.length_replicate]
    omega
theorem fn_of {CX : CXT} {P : Program} {w : World} {K : PySem.W.Frag} {mg : Str → Option Value} {base : Heap} {k : Nat} {f : Addr} {name qual : Str} {params : Arguments} {body : List Stmt} {scope : Scope} {dV kV doc pm cdv ct oc : Value} {an od : Option Addr}
    {osl : Array (Option Value)} {N ps : List Str} {sp : Sp} (lk : K.lookup f = some ⟨oc, od, .func (PySem.W.fnOf name qual params body scope dV kV doc pm an cdv ct), osl⟩) (hcd : PySem.W.codeIn K cdv qual = true) (S : FnScope N ps scope)
    (len : ∀ vs H Q E, sp vs H Q E → vs.length = ps.length)
    (hbody : ∀ (A : Around) (outer : List Env) (s : Shared) (H : Hp) (vs : List V) (Q : VK) (E : XK), Room k (A.deeper (envOfC qual scope s.heap.objs.size f cdv)) → sp vs H Q E →
      ∃ t, PSs (cxOf CX P w K mg base N qual scope f cdv A outer s H E) body t ∧ t { nx := fun _ H' => Q .non H', rt := Q } (start N vs) H) :
    FnOk P w K mg base CX (k + 1) f (PySem.W.fnOf name qual params body scope dV kV doc pm an cdv ct) ps sp := by
  refine ⟨len, fun A outer s H args us vs Q E hr e0 hb r hsp => ?_⟩
  have hl := len _ _ _ _ hsp
  have KX : K.In s.heap := e0.mod.kin.keeps fun b o e => (e0.bs b o e).1
  have lim : s.heap.NoLimit := e0.mod.nolimit.keeps fun b o e => (e0.bs b o e).1
  have hkind : ∀ y ∈ ps.zip us, scope.names.lookup y.1 = some .local ∨ (scope.names.lookup y.1 = some .cell ∧ ((cellsFrom (s.heap.objs.size + 1) scope.names []).lookup y.1).isSome = true) := fun ⟨n, v⟩ hy => by
    rcases S.par n (List.of_mem_zip hy).1 with q | q
    · exact .inl q
    · exact .inr ⟨q, PySem.W.cellsFrom_some _ _ _ (.inl q)⟩
  refine codeAny_call_function hr.depth (KX _ _ lk) rfl S.co S.gen rfl (PySem.W.codeRec_of KX hcd) (hb _ _ _ _ ?_)
  refine wpAny_newFunctionEnv_cells S.kind hkind fun env he s1 x => ?_
  subst he
  refine ⟨lim.keeps x.toInCall.keep, codeAny_func ?_⟩
  obtain ⟨t, ht, hq⟩ := hbody A outer s H vs Q E (hr.deeper _) hsp
  have I : Inv (cxOf CX P w K mg base N qual scope f cdv A outer s H E) [] (start N vs) H s1 := inv_start S hr.hd e0 hl r x
  refine wpAny_mono (ht [] s1 (start N vs) H _ I hq) (fun fl s' hs => ?_) fun e s' hs => hs
  have fin : ∀ {σ' : St} {H' : Hp} {v : V} {u : Value}, Inv (cxOf CX P w K mg base N qual scope f cdv A outer s H E) [] σ' H' s' → RelV v u → Q v H' → CE outer P w H s Q u s' :=
    fun {σ' H' v u} J rv q => ⟨v, H', J.os, J.bare, J.base, J.hok, rv, q⟩
  cases fl with
  | ret u =>
    obtain ⟨v, σ', H', J, rv, q⟩ := hs
    exact fin J rv q
  | next =>
    obtain ⟨σ', H', J, q⟩ := hs
    exact fin (v := V.non) (u := Value.none) J rfl q
  | brk =>
    obtain ⟨_, _, _, q⟩ := hs
    exact False.elim q
  | cont =>
    obtain ⟨_, _, _, q⟩ := hs
    exact False.elim q
end L2
namespace L2
open PySem PySem.Spec PyProof.Rows
section
variable {X : Cx} {x : Str} {p pos : Pos} {e : Expr} {es : List Expr} {t : TA} {id T : String} {r : List V → Hp → VK → Prop}
def tCB (r : List V → Hp → VK → Prop) (t : TA) : TE := fun σ H Q => t σ H fun vs H1 => r vs H1 Q
theorem pe_callB (hc : CallR X (.builtin id) r) (hg : Gl X x) (hm : X.mg x = none) (hv : bootBuiltins x = some (.builtin id)) (ha : PA X (e :: es) t) (hn : x ≠ "__name__" := by decide) (hdb : (x == ("__debug__" : Str)) = false := by decide)
    (he : starEach (e :: es) X.env = (false, eval e X.env) :: starEach es X.env := by rfl) (hpl : (backTo pos (starEach es X.env)).any (·.1) = false := by rfl) : PE X (.Call (.Name x p) (e :: es) [] pos) (tCB r t) := by
  intro pins s σ H Q I h
  refine wpAny_Call_Name_kw (ld_blt I hg hm hv ?_ hn hdb)
  exact PyProof.Rows.callWith_builtin1 (thn (ha pos pins s σ H _ I h) fun us s1 ⟨vs, H1, I1, r1, q1⟩ => hc pins s1 σ H1 vs us Q I1 r1 q1) he hpl
theorem pe_callTy (hc : CallR X (.type T) r) (hg : Gl X x) (hm : X.mg x = none) (hv : bootBuiltins x = some (.type T)) (ha : PA X (e :: es) t) (hn : x ≠ "__name__" := by decide) (hdb : (x == ("__debug__" : Str)) = false := by decide)
    (he : starEach (e :: es) X.env = (false, eval e X.env) :: starEach es X.env := by rfl) (hpl : (backTo pos (starEach es X.env)).any (·.1) = false := by rfl) : PE X (.Call (.Name x p) (e :: es) [] pos) (tCB r t) := by
  intro pins s σ H Q I h
  refine wpAny_Call_Name_kw (ld_blt I hg hm hv ?_ hn hdb)
  exact PyProof.Rows.callWith_type1 (thn (ha pos pins s σ H _ I h) fun us s1 ⟨vs, H1, I1, r1, q1⟩ => hc pins s1 σ H1 vs us Q I1 r1 q1) he hpl
end
end L2
namespace HT
open PySem PyProof.Rows
section
open PySem.SeqAt
open PySem.AutoSeq1 (wpAny_loadPart')
open PySem.MeetsSeq PySem.MeetsSeq2 PySem.MeetsSeq3
end
section
variable {prog : Program} {w : World} {A : Around} {E : Value → Shared → Prop} {s : Shared}
end
end HT
namespace L2
open PySem PySem.Spec PyProof.Rows
abbrev TO := St → Hp → (Option Int → Hp → Prop) → Prop
section
variable {X : Cx} {e : Expr} {te : TE} {lo hi : Option Expr} {tl th : TO} {pos p2 : Pos}
end
end L2
namespace L2
open PySem PySem.Spec PyProof.Rows
def ixN (n : Nat) (i : Int) : Option Nat := if 0 ≤ i then (if i < n then some i.toNat else none) else if -(n : Int) ≤ i then some (i + n).toNat else none
def atI {α : Type} (xs : List α) (i : Int) : Option α := (ixN xs.length i).bind fun j => xs[j]?
theorem ixN_seq {n : Nat} {i : Int} {j : Nat} (h : ixN n i = some j) : seqIndex? i n = some j ∧ j < n ∧ -(n : Int) ≤ i ∧ i < n := by
  unfold ixN at h
  by_cases h0 : 0 ≤ i
  · rw [if_pos h0] at h
    by_cases h1 : i < n
    · rw [if_pos h1] at h
      have e : i.toNat = j := Option.some.inj h
      exact ⟨by rw [seqIndex_of h0 h1, e], by omega, by omega, h1⟩
    · rw [if_neg h1] at h; cases h
  · rw [if_neg h0] at h
    by_cases h1 : -(n : Int) ≤ i
    · rw [if_pos h1] at h
      have e : (i + n).toNat = j := Option.some.inj h
      exact ⟨by rw [seqIndex_neg (by omega) h1, e], by omega, h1, by omega⟩
    · rw [if_neg h1] at h; cases h
theorem atI_get {α : Type} {xs : List α} {i : Int} {v : α} (h : atI xs i = some v) : ∃ j, seqIndex? i xs.length = some j ∧ xs[j]? = some v ∧ j < xs.length ∧ -(xs.length : Int) ≤ i ∧ i < xs.length := by
  unfold atI at h
  cases e : ixN xs.length i with
  | none => rw [e] at h; cases h
  | some j =>
    rw [e] at h
    obtain ⟨h1, h2, h3, h4⟩ := ixN_seq e
    exact ⟨j, h1, h, h2, h3, h4⟩
theorem atI_nat {α : Type} {xs : List α} {j : Nat} {v : α} (h : xs[j]? = some v) : atI xs (j : Int) = some v := by
  have hj : j < xs.length := (List.getElem?_eq_some_iff.mp h).1
  have e : ixN xs.length (j : Int) = some j := by
    unfold ixN
    rw [if_pos (by omega), if_pos (by omega)]; simp
  unfold atI; rw [e]; exact h
theorem atI_last {α : Type} (xs : List α) (v : α) : atI (xs ++ [v]) (-1) = some v := by
  have hl : (xs ++ [v]).length = xs.length + 1 := by simp
  have e : ixN (xs ++ [v]).length (-1) = some xs.length := by
    unfold ixN
    rw [hl, if_neg (by decide), if_pos (by omega)]
    congr 1
    omega
  unfold atI
  rw [e]
  show (xs ++ [v])[xs.length]? = some v
  simp
def PlainIx (b : Expr) : Prop := ∀ o i, subscripted b false o i = operate [o, i] (getItem o i)
def IxR (X : Cx) (r : R2) : Prop :=
  ∀ (value slice : Expr) (pins : List (Addr × Obj)) (s : Shared) (σ : St) (H : Hp) (x y : V) (v u : Value) (Q : VK), Inv X pins σ H s → RelV x v → RelV y u → r x y H Q →
    subscripted slice false v u = operate [v, u] (getItem v u) → wpAny (model X.prog X.w) X.A (subscriptTail value slice v u) (EP X pins σ Q) X.xe s
def MtR (X : Cx) (id : String) (r : V → List V → Hp → VK → Prop) : Prop :=
  ∀ (pins : List (Addr × Obj)) (s : Shared) (σ : St) (H : Hp) (x : V) (xs : List V) (v : Value) (us : List Value) (Q : VK), Inv X pins σ H s → RelV x v → Vals xs us → r x xs H Q →
    wpAny (model X.prog X.w) X.A (call (.builtin id) (v :: us)) (EP X pins σ Q) X.xe s
section
variable {X : Cx} {a b : Expr} {ta tb : TE} {pos : Pos}
theorem pe_ix {r : R2} (hr : IxR X r) (ha : PE X a ta) (hb : PE X b tb) (hs : PlainIx b) : PE X (.Subscript a b pos) (tOp r ta tb) := by
  intro pins s σ H Q I h
  exact Subscript_ (binT ha hb I h fun v u s2 x y H2 I2 rx ry q => hr a b pins s2 σ H2 x y v u Q I2 rx ry q (hs _ _))
def rIxL (K : PySem.W.Frag) : R2 := fun x y H Q => ∃ p xs i v, x = .ref p ∧ y = .int i ∧ SqL K H p xs ∧ atI xs i = some v ∧ Q v H
def rIxT (K : PySem.W.Frag) : R2 := fun x y H Q => ∃ p xs i v, x = .ref p ∧ y = .int i ∧ SqT K H p xs ∧ atI xs i = some v ∧ Q v H
theorem ix_list : IxR X (rIxL X.K) := by
  intro value slice pins s σ H x y v u Q I rx ry h hs
  obtain ⟨p, xs, i, z, rfl, rfl, hq, he, q⟩ := h
  cases rx
  obtain ⟨t, rfl⟩ := ry
  obtain ⟨its, r, pl, hz⟩ := I.list hq
  obtain ⟨j, h1, h2, h3, h4, h5⟩ := atI_get he
  obtain ⟨w, ew, rw'⟩ := r.get h2
  have hl := r.length
  have hn := line63
  have fin : EP X pins σ Q w s := ⟨z, H, I, rw', q⟩
  by_cases h0 : 0 ≤ i
  · have hj : i.toNat = j := by
      rw [seqIndex_of h0 h5] at h1
      exact Option.some.inj h1
    exact item_listR pl.isList h0 (by omega) (by rw [hj]; simpa using ew) fin hs
  · have hj : (i + (its.toArray.size : Int)).toNat = j := by
      rw [seqIndex_neg (by omega) h4] at h1
      rw [List.size_toArray, ← hl]
      exact Option.some.inj h1
    exact subscriptTail_builtinR (x := w) pl.isList.typeIs slot_list_getitem.lookup
      (wpAny_getItem_list_neg (Q := fun r s' => r = w ∧ EP X pins σ Q r s') pl.isList (by omega) (by rw [List.size_toArray] <;> omega) (by omega) (by rw [hj]; simpa using ew) ⟨rfl, fin⟩) hs
theorem ix_tup : IxR X (rIxT X.K) := by
  intro value slice pins s σ H x y v u Q I rx ry h hs
  obtain ⟨p, xs, i, z, rfl, rfl, hq, he, q⟩ := h
  cases rx
  obtain ⟨t, rfl⟩ := ry
  obtain ⟨its, r, pl, hz⟩ := I.tuple hq
  obtain ⟨j, h1, h2, h3, h4, h5⟩ := atI_get he
  obtain ⟨w, ew, rw'⟩ := r.get h2
  have hl := r.length
  have hn := line63
  have fin : EP X pins σ Q w s := ⟨z, H, I, rw', q⟩
  exact subscriptTail_builtinR (x := w) pl.typeIs slot_tuple_getitem.lookup
    (getItem_tuple (j := j) (Q := fun r s' => r = w ∧ EP X pins σ Q r s') pl (by omega) (by omega) (by rw [List.size_toArray, ← hl]; exact h1) (by simpa using ew) ⟨rfl, fin⟩) hs
theorem mapSeq_set (its : List Value) (n j : Nat) (u : Value) : Obj.mapSeq (·.setIfInBounds j u) { cls := .type "list", data := .seq its.toArray n } = { cls := .type "list", data := .seq (its.set j u).toArray n } := by
  simp [Obj.mapSeq]
theorem Inv.lst {pins : List (Addr × Obj)} {σ : St} {H : Hp} {s : Shared} {p : Addr} {xs : List V} (I : Inv X pins σ H s) (h : H p = some (.lst xs)) :
    ∃ (its : List Value) (n : Nat), Vals xs its ∧ s.heap.get? p = some { cls := .type "list", data := .seq its.toArray n } ∧ xs.length ≤ sizeLine := by
  obtain ⟨z, its, n, r, e⟩ := I.hok p _ h
  exact ⟨its, n, r, e, z⟩
theorem Inv.lstUpd {pins : List (Addr × Obj)} {σ : St} {H : Hp} {s : Shared} {p : Addr} {xs ys : List V} {its its' : List Value} {n n' : Nat} {f : Obj → Obj} (I : Inv X pins σ H s) (h : H p = some (.lst xs))
    (ho : s.heap.get? p = some { cls := .type "list", data := .seq its.toArray n }) (hf : f { cls := .type "list", data := .seq its.toArray n } = { cls := .type "list", data := .seq its'.toArray n' }) (r : Vals ys its') (hz : ys.length ≤ sizeLine) (t : Nat) :
    Inv X pins σ (upd H p (.lst ys)) { s with heap := s.heap.update p f, toks := t } := by
  have e : (s.heap.update p f).get? p = some { cls := .type "list", data := .seq its'.toArray n' } := by
    rw [Heap.get?_update_self f ho (by rw [hf] <;> rfl), hf]
  refine I.write (x := p) (e := p) (by rw [h]; trivial) (.inl rfl) (fun b u hb q => (Heap.get?_update_other _ _ (Ne.symm hb)).trans q) ⟨_, e⟩ ?_
  exact ⟨hz, its', n', r, e⟩
def rSetL : V → V → V → Hp → (Hp → Prop) → Prop := fun o i v H Q => ∃ p xs k j, o = .ref p ∧ i = .int k ∧ H p = some (.lst xs) ∧ ixN xs.length k = some j ∧ Q (upd H p (.lst (xs.set j v)))
theorem set_list : PSet X rSetL := by
  intro pins s σ H o i v ov iv u Q I ro ri rv h
  obtain ⟨p, xs, k, j, rfl, rfl, hp, hj, q⟩ := h
  cases ro
  obtain ⟨t, rfl⟩ := ri
  obtain ⟨its, n, r, ho, hz⟩ := I.lst hp
  obtain ⟨h1, h2, h3, h4⟩ := ixN_seq hj
  have hl := r.length
  have hn := line63
  have I' : Inv X pins σ (upd H p (.lst (xs.set j v))) { s with heap := s.heap.update p (Obj.mapSeq (·.setIfInBounds j u)) } :=
    I.lstUpd hp ho (mapSeq_set its n j u) (r.set rv j) (by rw [List.length_set]; exact hz) s.toks
  by_cases h0 : 0 ≤ k
  · have hk : k.toNat = j := by
      rw [seqIndex_of h0 h4] at h1
      exact Option.some.inj h1
    exact PySem.W.ki_setAt ho h0 (by omega) (by rw [List.size_toArray, ← hl]; exact h4) (by rw [hk]; exact ⟨_, I', q⟩)
  · have hk : (k + (its.toArray.size : Int)).toNat = j := by
      rw [seqIndex_neg (by omega) h3] at h1
      rw [List.size_toArray, ← hl]
      exact Option.some.inj h1
    exact PySem.W.ki_setBack ho (by omega) (by rw [List.size_toArray, ← hl]; exact h3) (by omega) (by rw [hk]; exact ⟨_, I', q⟩)
def flatV : V → Bool
  | .non => true
  | .bl _ => true
  | .int _ => true
  | .str _ => true
  | _ => false
def eqV : V → V → Bool
  | .non, .non => true
  | .bl a, .bl b => a == b
  | .bl a, .int b => (if a then 1 else 0) == b
  | .int a, .bl b => a == (if b then 1 else 0)
  | .int a, .int b => a == b
  | .str a, .str b => a == b
  | _, _ => false
theorem eqAt_V {A : Around} {s : Shared} {y x : V} {u v : Value} (ry : RelV y u) (rx : RelV x v) (fy : flatV y = true) (fx : flatV x = true) : SeqAt.EqAt A s u v (eqV y x) := by
  cases y with
  | non =>
    cases ry
    cases x with
    | non => cases rx; exact SeqAt.EqAt.same _
    | bl b => cases rx; exact SeqAt.EqAt.none_bool b
    | int b => obtain ⟨t, rfl⟩ := rx; exact SeqAt.EqAt.none_int b t
    | str b => obtain ⟨t, rfl⟩ := rx; exact SeqAt.EqAt.none_str b t
    | _ => exact absurd (show false = true from fx) Bool.false_ne_true
  | bl a =>
    cases ry
    cases x with
    | non => cases rx; exact SeqAt.EqAt.bool_none a
    | bl b => cases rx; exact SeqAt.EqAt.bool_bool a b
    | int b => obtain ⟨t, rfl⟩ := rx; exact SeqAt.EqAt.bool_int a b t
    | str b => obtain ⟨t, rfl⟩ := rx; exact SeqAt.EqAt.bool_str a b t
    | _ => exact absurd (show false = true from fx) Bool.false_ne_true
  | int a =>
    obtain ⟨t', rfl⟩ := ry
    cases x with
    | non => cases rx; exact SeqAt.EqAt.int_none a t'
    | bl b => cases rx; exact SeqAt.EqAt.int_bool a t' b
    | int b => obtain ⟨t, rfl⟩ := rx; exact SeqAt.EqAt.int_int a t' b t
    | str b => obtain ⟨t, rfl⟩ := rx; exact SeqAt.EqAt.int_str a t' b t
    | _ => exact absurd (show false = true from fx) Bool.false_ne_true
  | str a =>
    obtain ⟨t', rfl⟩ := ry
    cases x with
    | non => cases rx; exact SeqAt.EqAt.str_none a t'
    | bl b => cases rx; exact SeqAt.EqAt.str_bool a t' b
    | int b => obtain ⟨t, rfl⟩ := rx; exact SeqAt.EqAt.str_int a t' b t
    | str b => obtain ⟨t, rfl⟩ := rx; exact SeqAt.EqAt.str_str a t' b t
    | _ => exact absurd (show false = true from fx) Bool.false_ne_true
  | _ => exact absurd (show false = true from fy) Bool.false_ne_true
def eqU (x : V) (u : Value) : Bool := match u with
  | .none => eqV .non x
  | .bool b => eqV (.bl b) x
  | .int i _ => eqV (.int i) x
  | .str z _ => eqV (.str z) x
  | _ => false
theorem eqU_of {x y : V} {u : Value} (r : RelV y u) (f : flatV y = true) : eqU x u = eqV y x := by
  cases y with
  | non => cases r; rfl
  | bl b => cases r; rfl
  | int i => obtain ⟨t, rfl⟩ := r; rfl
  | str z => obtain ⟨t, rfl⟩ := r; rfl
  | _ => exact absurd (show false = true from f) Bool.false_ne_true
theorem any_eqU {x : V} : ∀ {xs : List V} {us : List Value}, Vals xs us → xs.all flatV = true → us.any (eqU x) = xs.any fun y => eqV y x
  | _, _, .nil, _ => rfl
  | y :: xs, u :: us, .cons r t, f => by
    rw [List.all_cons, Bool.and_eq_true] at f
    rw [List.any_cons, List.any_cons, eqU_of r f.1, any_eqU t f.2]
theorem mem_eqAt {A : Around} {s : Shared} {x : V} {v : Value} (rx : RelV x v) (fx : flatV x = true) : ∀ {xs : List V} {us : List Value}, Vals xs us → xs.all flatV = true → ∀ u ∈ us, SeqAt.EqAt A s u v (eqU x u)
  | _, _, .nil, _ => fun u hu => by cases hu
  | y :: xs, u :: us, .cons r t, f => fun u' hu => by
    rw [List.all_cons, Bool.and_eq_true] at f
    rcases List.mem_cons.mp hu with rfl | hu
    · rw [eqU_of r f.1]; exact eqAt_V r rx f.1 fx
    · exact mem_eqAt rx fx t f.2 u' hu
def inV (x : V) (xs : List V) : Bool := xs.any fun y => eqV y x
def rIn (K : PySem.W.Frag) (neg : Bool) : R2 := fun x y H Q => ∃ p xs, y = .ref p ∧ (SqL K H p xs ∨ SqT K H p xs) ∧ flatV x = true ∧ xs.all flatV = true ∧ Q (.bl (if neg then !inV x xs else inV x xs)) H
theorem op_in_seq : OpR X (compareOp .In) (rIn X.K false) := by
  intro pins s σ H x y v u Q I rx ry h
  obtain ⟨p, xs, rfl, hq, fx, fs, q⟩ := h
  cases ry
  rcases hq with hq | hq
  · obtain ⟨its, r, pl, hz⟩ := I.list hq
    refine SeqAt.in_listAt (eqU x) pl.isList (fun w hw => mem_eqAt rx fx r fs w (by simpa using hw)) ⟨.bl _, H, I, rfl, ?_⟩
    rw [show its.toArray.any (eqU x) = its.any (eqU x) by simp, any_eqU r fs]
    exact q
  · obtain ⟨its, r, pl, hz⟩ := I.tuple hq
    refine SeqAt.in_tupleAt (eqU x) pl (fun w hw => mem_eqAt rx fx r fs w (by simpa using hw)) ⟨.bl _, H, I, rfl, ?_⟩
    rw [show its.toArray.any (eqU x) = its.any (eqU x) by simp, any_eqU r fs]
    exact q
theorem op_notIn_seq : OpR X (compareOp .NotIn) (rIn X.K true) := by
  intro pins s σ H x y v u Q I rx ry h
  obtain ⟨p, xs, rfl, hq, fx, fs, q⟩ := h
  cases ry
  rcases hq with hq | hq
  · obtain ⟨its, r, pl, hz⟩ := I.list hq
    refine SeqAt.notIn_listAt (eqU x) pl.isList (fun w hw => mem_eqAt rx fx r fs w (by simpa using hw)) ⟨.bl _, H, I, rfl, ?_⟩
    rw [show its.toArray.any (eqU x) = its.any (eqU x) by simp, any_eqU r fs]
    exact q
  · obtain ⟨its, r, pl, hz⟩ := I.tuple hq
    refine SeqAt.notIn_tupleAt (eqU x) pl (fun w hw => mem_eqAt rx fx r fs w (by simpa using hw)) ⟨.bl _, H, I, rfl, ?_⟩
    rw [show its.toArray.any (eqU x) = its.any (eqU x) by simp, any_eqU r fs]
    exact q
theorem call_len_seq : CallR X (.builtin "len") (fun xs H Q => ∃ p ys, xs = [.ref p] ∧ (SqL X.K H p ys ∨ SqT X.K H p ys) ∧ Q (.int ys.length) H) := by
  intro pins s σ H xs us Q I r h
  obtain ⟨p, ys, rfl, hq, q⟩ := h
  obtain ⟨u, rfl, rx⟩ := vals1 r
  cases rx
  have hn := line63
  rcases hq with hq | hq
  · obtain ⟨its, r', pl, hz⟩ := I.list hq
    have hlen := r'.length
    exact Calls.call_len_list pl.isList (by simp only [List.size_toArray] <;> omega) ⟨.int ys.length, H, I.tok _, ⟨s.toks + 1, by rw [List.size_toArray, hlen]⟩, q⟩
  · obtain ⟨its, r', pl, hz⟩ := I.tuple hq
    have hlen := r'.length
    exact len_tuple pl (by simp only [List.size_toArray] <;> omega) ⟨.int ys.length, H, I.tok _, ⟨s.toks + 1, by rw [List.size_toArray, hlen]⟩, q⟩
theorem call_list_of : CallR X (.type "list") (fun xs H Q => ∃ p ys, xs = [.ref p] ∧ (SqL X.K H p ys ∨ SqT X.K H p ys) ∧ ∀ l, H l = none → Q (.ref l) (upd H l (.lst ys))) := by
  intro pins s σ H xs us Q I r h
  obtain ⟨p, ys, rfl, hq, q⟩ := h
  obtain ⟨u, rfl, rx⟩ := vals1 r
  cases rx
  have fin : ∀ (its : List Value), Vals ys its → ys.length ≤ sizeLine → ∀ (h' : Heap) (c' : Nat), (∀ b o', s.heap.get? b = some o' → h'.get? b = some o') →
      h'.get? s.heap.objs.size = some { cls := .type "list", dict := none, data := .seq its.toArray c', slots := #[] } → EP X pins σ Q (.ref s.heap.objs.size) { s with heap := h' } := fun its r' hz h' c' kp e =>
    ⟨.ref s.heap.objs.size, _, I.laid (t' := s.toks) kp (Nat.le_refl _) (show ObjOk X.prog X.w _ h' _ (.lst ys) from ⟨hz, its, c', r', e⟩), rfl, q _ (I.hok.fresh (Nat.le_refl _))⟩
  rcases hq with hq | hq
  · obtain ⟨its, r', pl, hz⟩ := I.list hq
    have hlen := r'.length
    obtain ⟨o, ho, hc, n, hd⟩ := pl.isList
    exact call_list_seq p (.inl rfl) ho hc hd (fun h' c' kp e => fin its r' hz h' c' kp e) (by simp only [List.size_toArray] <;> omega)
  · obtain ⟨its, r', pl, hz⟩ := I.tuple hq
    have hlen := r'.length
    obtain ⟨o, ho, hc, n, hd⟩ := pl
    exact call_list_seq p (.inr rfl) ho hc hd (fun h' c' kp e => fin its r' hz h' c' kp e) (by simp only [List.size_toArray] <;> omega)
theorem call_tuple_of : CallR X (.type "tuple") (fun xs H Q => ∃ p ys, xs = [.ref p] ∧ ((SqL X.K H p ys ∧ ∀ l, H l = none → Q (.ref l) (upd H l (.tup ys))) ∨ (SqT X.K H p ys ∧ Q (.ref p) H))) := by
  intro pins s σ H xs us Q I r h
  obtain ⟨p, ys, rfl, h⟩ := h
  obtain ⟨u, rfl, rx⟩ := vals1 r
  cases rx
  rcases h with ⟨hq, q⟩ | ⟨hq, q⟩
  · obtain ⟨its, r', pl, hz⟩ := I.list hq
    have hlen := r'.length
    refine call_tuple_list pl.isList (fun h' kp => ?_) (by simp only [List.size_toArray] <;> omega)
    have I1 : Inv X pins σ H { s with heap := h' } := I.kept (t' := s.toks) kp
    have I2 : Inv X pins σ (upd H h'.objs.size (.tup ys)) { s with heap := h'.push { cls := .type "tuple", data := .seq its.toArray } } :=
      I1.laid (t' := s.toks) (fun b o e => Heap.get?_push_of_some _ e) (Nat.le_refl _) (show ObjOk X.prog X.w _ _ _ (.tup ys) from ⟨hz, its, r', IsTup.new _ _⟩)
    exact ⟨.ref h'.objs.size, _, I2, rfl, q _ (I1.hok.fresh (Nat.le_refl _))⟩
  · obtain ⟨its, r', pl, hz⟩ := I.tuple hq
    exact call_tuple_same pl ⟨.ref p, H, I, rfl, q⟩
def tyV (K : PySem.W.Frag) (T : String) (x : V) (H : Hp) : Prop := match x with
  | .str _ => T = "str"
  | .int _ => T = "int"
  | .ref p => (T = "list" ∧ ∃ xs, SqL K H p xs) ∨ (T = "tuple" ∧ ∃ o, K.lookup p = some o ∧ o.cls = .type "tuple" ∧ o.dict = none) ∨
      (T = "dict" ∧ ((∃ kvs, H p = some (.dK kvs)) ∨ ∃ kvs, H p = some (.dT kvs))) ∨ (T = "set" ∧ ∃ S n, H p = some (.set S n))
  | _ => False
theorem tyV_is {pins : List (Addr × Obj)} {σ : St} {H : Hp} {s : Shared} {T : String} {x : V} {v : Value} (I : Inv X pins σ H s) (r : RelV x v) (ty : tyV X.K T x H) :
    s.TypeIs v T ∧ ∀ a, v = .ref a → ∃ ob, s.heap.get? a = some ob ∧ ob.dict = none := by
  cases x with
  | str z =>
    obtain ⟨t, rfl⟩ := r
    cases (show T = "str" from ty)
    exact ⟨typeIs_str s z t, fun _ e => nomatch e⟩
  | int i =>
    obtain ⟨t, rfl⟩ := r
    cases (show T = "int" from ty)
    exact ⟨typeIs_int s i t, fun _ e => nomatch e⟩
  | ref p =>
    cases r
    rcases ty with ⟨rfl, xs, hq⟩ | ⟨rfl, o, hk, hc, hd⟩ | ⟨rfl, hk⟩ | ⟨rfl, S, n, hk⟩
    · obtain ⟨its, _, pl, _⟩ := I.list hq
      refine ⟨pl.isList.typeIs, fun a e => ?_⟩
      cases e
      obtain ⟨o, n, e, c, hd, _⟩ := pl
      exact ⟨o, e, hd⟩
    · refine ⟨⟨o, I.kIn p o hk, hc⟩, fun a e => ?_⟩
      cases e
      exact ⟨o, I.kIn _ o hk, hd⟩
    · have z : ∃ o, s.heap.get? p = some o ∧ o.ExactDict := by
        rcases hk with ⟨kvs, hk⟩ | ⟨kvs, hk⟩
        · obtain ⟨_, _, _, _, o, _, _, e, ex, _⟩ := I.hok p _ hk
          exact ⟨o, e, ex⟩
        · obtain ⟨_, _, _, _, o, _, _, e, ex, _⟩ := I.hok p _ hk
          exact ⟨o, e, ex⟩
      obtain ⟨o, e, ex⟩ := z
      refine ⟨⟨o, e, ex.1⟩, fun a e2 => ?_⟩
      cases e2
      exact ⟨o, e, ex.2.1⟩
    · obtain ⟨o, _, _, _, e, ex, _⟩ := I.hok p _ hk
      refine ⟨⟨o, e, ex.1⟩, fun a e2 => ?_⟩
      cases e2
      exact ⟨o, e, ex.2.1⟩
  | _ => exact False.elim ty
def tBM0 (K : PySem.W.Frag) (T : String) (r : V → List V → Hp → VK → Prop) (to : TE) : TE := fun σ H Q => to σ H fun x H1 => tyV K T x H1 ∧ r x [] H1 Q
def tBM (K : PySem.W.Frag) (T : String) (r : V → List V → Hp → VK → Prop) (to : TE) (t : TA) : TE := fun σ H Q => to σ H fun x H1 => tyV K T x H1 ∧ t σ H1 fun xs H2 => r x xs H2 Q
variable {o e : Expr} {es : List Expr} {to : TE} {t : TA} {name : Str} {apos cpos : Pos} {T id : String} {r : V → List V → Hp → VK → Prop}
theorem pe_bm0 (pa : PlainAttrs T) (slot : Slot T name id) (hty : typeOf (.builtin id) = pure (.type "method_descriptor")) (hm : MtR X id r) (ho : PE X o to)
    (hbase : attributeBase o name X.env (eval o X.env) = eval o X.env := by rfl) (hline : (apos.endLine == cpos.line) = true := by rfl) : PE X (.Call (.Attribute o name apos) [] [] cpos) (tBM0 X.K T r to) := by
  intro pins s σ H Q I h
  refine wpAny_Call_method0_late hbase hline (thn (ho pins s σ H _ I h) fun v s1 ⟨x, H1, I1, r1, ty, q1⟩ => ?_)
  obtain ⟨h1, h2⟩ := tyV_is I1 r1 ty
  exact ⟨T, id, pa, slot, hty, h1, h2, Calls.callWith_builtin rfl (PySem.evalArgs_none (hm pins s1 σ H1 x [] v [] Q I1 r1 .nil q1))⟩
theorem pe_bm (pa : PlainAttrs T) (slot : Slot T name id) (hty : typeOf (.builtin id) = pure (.type "method_descriptor")) (hm : MtR X id r) (ho : PE X o to) (ha : PA X (e :: es) t)
    (hbase : attributeBase o name X.env (eval o X.env) = eval o X.env := by rfl)
    (hfew : ((backTo cpos (starEach (e :: es) X.env)).all (fun x => !x.1) && (backToKw cpos (keywordEach [] X.env)).all (fun x => x.1.isSome)
      && decide ((e :: es).length + ([] : List Keyword).length + (if ([] : List Keyword).isEmpty then 0 else 1) < 30)) = true := by rfl)
    (hline : (apos.endLine == cpos.line) = true := by rfl) (hs : starEach (e :: es) X.env = (false, eval e X.env) :: starEach es X.env := by rfl) (hplain : (backTo cpos (starEach es X.env)).any (·.1) = false := by rfl) :
    PE X (.Call (.Attribute o name apos) (e :: es) [] cpos) (tBM X.K T r to t) := by
  intro pins s σ H Q I h
  refine wpAny_Call_method_late hbase hfew hline rfl (thn (ho pins s σ H _ I h) fun v s1 ⟨x, H1, I1, r1, ty, q1⟩ => ?_)
  obtain ⟨h1, h2⟩ := tyV_is I1 r1 ty
  refine ⟨T, id, pa, slot, hty, h1, h2, ?_⟩
  have hA := ha cpos pins s1 σ H1 _ I1 q1
  rw [hs] at hA ⊢
  refine Calls.callWith_builtin (by show (false || (backTo cpos (starEach es X.env)).any (·.1)) = false; rw [hplain] <;> rfl) (Calls.evalArgs_plain ?_)
  exact thn hA fun us s2 ⟨vs, H2, I2, r2, q2⟩ => hm pins s2 σ H2 x vs v us Q I2 r1 r2 q2
end
end L2
namespace L2
open PySem PySem.Spec PyProof.Rows
def MtM (X : Cx) (id : String) (r : V → List V → Hp → VK → Prop) : Prop :=
  ∀ (pins : List (Addr × Obj)) (s : Shared) (σ : St) (H : Hp) (x : V) (xs : List V) (v : Value) (us : List Value) (Q : VK), Inv X pins σ H s → RelV x v → Vals xs us → r x xs H Q →
    wpAny (model X.prog X.w) X.A (call (.builtin id) (v :: us)) (EP X pins σ Q) X.xe s
theorem Vals.one : ∀ {x : V} {us : List Value}, Vals [x] us → ∃ u, us = [u] ∧ RelV x u
  | _, _, .cons r .nil => ⟨_, rfl, r⟩
theorem Vals.zero : ∀ {us : List Value}, Vals [] us → us = []
  | _, .nil => rfl
theorem Vals.dropLast {xs : List V} {us : List Value} (h : Vals xs us) : Vals xs.dropLast us.dropLast := by
  induction h with
  | nil => exact .nil
  | cons r t ih =>
    cases t with
    | nil => exact .nil
    | cons q t' => exact .cons r ih
theorem Vals.eraseIdx : ∀ {xs : List V} {us : List Value} (i : Nat), Vals xs us → Vals (xs.eraseIdx i) (us.eraseIdx i)
  | _, _, _, .nil => .nil
  | _, _, 0, .cons _ t => t
  | _, _, i + 1, .cons r t => .cons r (Vals.eraseIdx i t)
theorem Vals.rep {xs : List V} {us : List Value} (h : Vals xs us) : ∀ k : Nat, Vals (List.replicate k xs).flatten (List.replicate k us).flatten
  | 0 => .nil
  | k + 1 => by
    rw [List.replicate_succ, List.replicate_succ, List.flatten_cons, List.flatten_cons]
    exact Vals.append h (Vals.rep h k)
theorem erase_last {α : Type} (l : List α) : l.eraseIdx (l.length - 1) = l.dropLast := by
  induction l with
  | nil => rfl
  | cons a r ih =>
    cases r with
    | nil => rfl
    | cons b r =>
      have e : (a :: b :: r).length - 1 = ((b :: r).length - 1) + 1 := by
        have h1 : (a :: b :: r).length = r.length + 2 := rfl
        have h2 : (b :: r).length = r.length + 1 := rfl
        omega
      rw [e, List.eraseIdx_cons_succ, ih]
      all_goals rfl
theorem foldl_rep (its : List Value) : ∀ (k : Nat) (acc : List Value),
    List.foldl (fun x1 x2 => x1 ++ x2) acc.toArray (List.replicate k its.toArray) = (acc ++ (List.replicate k its).flatten).toArray
  | 0, acc => by simp
  | k + 1, acc => by
    have e : acc.toArray ++ its.toArray = (acc ++ its).toArray := by simp
    have e2 : (acc ++ its) ++ (List.replicate k its).flatten = acc ++ (List.replicate (k + 1) its).flatten := by
      rw [List.replicate_succ, List.flatten_cons, List.append_assoc]
    rw [← e2, ← foldl_rep its k (acc ++ its), ← e, List.replicate_succ, List.foldl_cons]
section
variable {X : Cx} {pins : List (Addr × Obj)} {σ : St} {H : Hp} {s : Shared} {l b : Addr} {xs ys zs : List V}
theorem Inv.lset {its its' : List Value} {n : Nat} {f : Array Value → Array Value} {t' : Nat} (I : Inv X pins σ H s) (hH : H l = some (.lst xs))
    (e : s.heap.get? l = some { cls := .type "list", data := .seq its.toArray n }) (hf : f its.toArray = its'.toArray) (hv : Vals ys its') (hz : ys.length ≤ sizeLine) :
    Inv X pins σ (upd H l (.lst ys)) { s with heap := s.heap.update l (Obj.mapSeq f), toks := t' } := by
  have q := PySem.IsL.update e f
  rw [hf] at q
  refine I.write (x := l) (e := l) (by rw [hH]; exact trivial) (.inl rfl) (fun b' u hb hu => (Heap.get?_update_other s.heap (Obj.mapSeq f) (Ne.symm hb)).trans hu) ⟨_, q⟩ ?_
  exact ⟨hz, its', _, hv, q⟩
theorem Inv.lnew {its : List Value} {t' : Nat} (I : Inv X pins σ H s) (hv : Vals ys its) (hz : ys.length ≤ sizeLine) :
    Inv X pins σ (upd H s.heap.objs.size (.lst ys)) { s with heap := s.heap.push { cls := .type "list", data := .seq its.toArray }, toks := t' } :=
  I.laid (fun _ _ q => Heap.get?_push_of_some _ q) (Nat.le_refl _) ⟨hz, its, 0, hv, Heap.get?_push_size _ rfl⟩
theorem Inv.fresh (I : Inv X pins σ H s) : H s.heap.objs.size = none := I.hok.fresh (Nat.le_refl _)
theorem Inv.lstM (I : Inv X pins σ H s) (hH : H l = some (.lst xs)) : xs.length ≤ sizeLine ∧ ∃ (its : List Value) (n : Nat), Vals xs its ∧ xs.length = its.length ∧ s.heap.get? l = some { cls := .type "list", data := .seq its.toArray n } := by
  obtain ⟨z, its, n, r, e⟩ := I.hok l _ hH
  exact ⟨z, its, n, r, r.length, e⟩
theorem notLongL {n : Nat} (h : n ≤ sizeLine) : Builtin.List.listTooLong n = false := by
  unfold Builtin.List.listTooLong
  exact decide_eq_false (by omega)
end
section
variable {X : Cx}
def rAppend : V → List V → Hp → VK → Prop := fun x vs H Q => ∃ l xs y, x = .ref l ∧ vs = [y] ∧ H l = some (.lst xs) ∧ xs.length < sizeLine ∧ Q .non (upd H l (.lst (xs ++ [y])))
theorem mt_append : MtM X "list.append" rAppend := by
  intro pins s σ H x vs v us Q I rx rv h
  obtain ⟨l, xs, y, rfl, rfl, hH, hz, q⟩ := h
  cases rx
  obtain ⟨u, rfl, ru⟩ := rv.one
  obtain ⟨z, its, n, r, hl, e⟩ := I.lstM hH
  refine call_meets F.slot_list_append ⟨_, e, rfl⟩ F.entry_list_append (F.args_list_append_2 _ _) (PySem.list_append l its.toArray n u (by rw [List.size_toArray]; omega)) ⟨e, ?_⟩
  refine ⟨.non, _, I.lset (its' := its ++ [u]) hH e (by simp) (r.append (.cons ru .nil)) ?_, rfl, q⟩
  rw [List.length_append, List.length_singleton]
  omega
def rExtend : V → List V → Hp → VK → Prop := fun x vs H Q => ∃ l b xs zs, x = .ref l ∧ vs = [.ref b] ∧ H l = some (.lst xs) ∧ H b = some (.lst zs) ∧ xs.length + zs.length ≤ sizeLine ∧ Q .non (upd H l (.lst (xs ++ zs)))
theorem mt_extend : MtM X "list.extend" rExtend := by
  intro pins s σ H x vs v us Q I rx rv h
  obtain ⟨l, b, xs, zs, rfl, rfl, hH, hB, hz, q⟩ := h
  cases rx
  obtain ⟨u, rfl, ru⟩ := rv.one
  cases ru
  obtain ⟨z, its, n, r, hl, e⟩ := I.lstM hH
  obtain ⟨z2, its2, n2, r2, hl2, e2⟩ := I.lstM hB
  have hsz : its.toArray.size + its2.toArray.size ≤ sizeLine := by rw [List.size_toArray, List.size_toArray]; omega
  have hlong : ¬ (!its.toArray.isEmpty && Builtin.List.listTooLong (its.toArray.size + its2.toArray.size)) = true := by
    rw [notLongL hsz, Bool.and_false]
    exact Bool.false_ne_true
  refine call_meets F.slot_list_extend ⟨_, e, rfl⟩ F.entry_list_extend (F.args_list_extend_2 _ _)
    (AutoSeq1.list_extend_list_list_0 l its.toArray n b its2.toArray n2 hlong (by rw [List.size_toArray]; omega) (by omega)) ⟨e, e2, ?_⟩
  refine ⟨.non, _, I.lset (its' := its ++ its2) hH e (by simp) (r.append r2) ?_, rfl, q⟩
  rw [List.length_append]
  omega
def rPop : V → List V → Hp → VK → Prop := fun x vs H Q => ∃ l xs y, x = .ref l ∧ vs = [] ∧ H l = some (.lst xs) ∧ xs[xs.length - 1]? = some y ∧ Q y (upd H l (.lst xs.dropLast))
theorem mt_pop : MtM X "list.pop" rPop := by
  intro pins s σ H x vs v us Q I rx rv h
  obtain ⟨l, xs, y, rfl, rfl, hH, hy, q⟩ := h
  cases rx
  have hus := rv.zero
  subst hus
  obtain ⟨z, its, n, r, hl, e⟩ := I.lstM hH
  obtain ⟨u, hu, ru⟩ := r.get hy
  have hy' : its.toArray[its.toArray.size - 1]? = some u := by
    show its.toArray[its.length - 1]? = some u
    rw [← Array.getElem?_toList, ← hl]
    exact hu
  refine call_meets F.slot_list_pop ⟨_, e, rfl⟩ F.entry_list_pop (F.args_list_pop_1 _) (MeetsSeq.list_pop_last l its.toArray n u hy' (by rw [List.size_toArray]; omega)) ⟨e, ?_⟩
  refine ⟨y, _, I.lset (its' := its.dropLast) hH e ?_ r.dropLast ?_, ru, q⟩
  · show its.toArray.eraseIdxIfInBounds (its.toArray.size - 1) = its.dropLast.toArray
    rw [List.size_toArray, List.eraseIdxIfInBounds_toArray, erase_last]
  · rw [List.length_dropLast]
    omega
def rCat : R2 := fun x y H Q => ∃ l b xs zs, x = .ref l ∧ y = .ref b ∧ H l = some (.lst xs) ∧ H b = some (.lst zs) ∧ xs.length + zs.length ≤ sizeLine ∧ ∀ p, H p = none → Q (.ref p) (upd H p (.lst (xs ++ zs)))
theorem op_cat : OpR X (binaryOp .Add) rCat := by
  intro pins s σ H x y v u Q I rx ry h
  obtain ⟨l, b, xs, zs, rfl, rfl, hH, hB, hz, q⟩ := h
  cases rx
  cases ry
  obtain ⟨z, its, n, r, hl, e⟩ := I.lstM hH
  obtain ⟨z2, its2, n2, r2, hl2, e2⟩ := I.lstM hB
  refine PySem.P.add_list e e2 ?_ (by rw [List.size_toArray, List.size_toArray]; omega)
  have ea : its.toArray ++ its2.toArray = (its ++ its2).toArray := by simp
  rw [ea]
  exact ⟨.ref _, _, I.lnew (t' := s.toks) (r.append r2) (by rw [List.length_append]; omega), rfl, q _ I.fresh⟩
def rRep : R2 := fun x y H Q => ∃ l k xs, x = .ref l ∧ y = .int k ∧ H l = some (.lst xs) ∧ -(2 ^ 63) ≤ k ∧ k < 2 ^ 63 ∧ xs.length * k.toNat ≤ sizeLine ∧
  ∀ p, H p = none → Q (.ref p) (upd H p (.lst (List.replicate k.toNat xs).flatten))
theorem len_rep {α : Type} (xs : List α) (k : Nat) : (List.replicate k xs).flatten.length = k * xs.length := by
  induction k with
  | zero => simp
  | succ k ih => rw [List.replicate_succ, List.flatten_cons, List.length_append, ih, Nat.succ_mul, Nat.add_comm]
theorem op_rep : OpR X (binaryOp .Mult) rRep := by
  intro pins s σ H x y v u Q I rx ry h
  obtain ⟨l, k, xs, rfl, rfl, hH, h1, h2, hz, q⟩ := h
  cases rx
  obtain ⟨t, rfl⟩ := ry
  obtain ⟨z, its, n, r, hl, e⟩ := I.lstM hH
  have hlen : its.toArray.size * k.toNat ≤ sizeLine := by rw [List.size_toArray, ← hl]; exact hz
  have hcap : ¬ its.toArray.size * k.toNat > (2 ^ 63 - 1) / 8 := by
    have : (sizeLine : Nat) ≤ (2 ^ 63 - 1) / 8 := by decide
    omega
  have hfit : ¬ (!Builtin.List.listFitsIndex k) = true := by
    rw [fitsIndex_both h1 h2]
    exact Bool.false_ne_true
  have hlong : ¬ Builtin.List.listTooLong (its.toArray.size * k.toNat) = true := by
    rw [notLongL hlen]
    exact Bool.false_ne_true
  have hnew : List.foldl (fun x1 x2 => x1 ++ x2) #[] (List.replicate (if its.toArray.isEmpty = true then 0 else k.toNat) its.toArray) = (List.replicate k.toNat its).flatten.toArray := by
    have f0 : ∀ m : Nat, List.foldl (fun x1 x2 => x1 ++ x2) #[] (List.replicate m its.toArray) = (List.replicate m its).flatten.toArray := fun m => by
      have := foldl_rep its m []
      rw [List.nil_append] at this
      exact this
    rw [f0]
    cases its with
    | nil => simp
    | cons a r' => rw [if_neg (by simp)]
  refine wpAny_binaryOp_repeat_ref (T := "list") (U := "int") (by decide) ⟨_, e, rfl⟩ (fun s' => typeIs_int s' k t) noFill_list_mul F.fills_int_mul F.slot_int_rmul repeat_list F.slot_int_index.lookup
    (call_meets F.slot_int_rmul (typeIs_int s k t) F.entry_int_rmul (F.args_int_rmul_2 _ _) (int___rmul___int_list k t l its.toArray n)
      ⟨e, rfl, ⟨_, e, rfl⟩, call_meets F.slot_list_mul ⟨_, e, rfl⟩ F.entry_list_mul (F.args_list_mul_2 _ _) (AutoListH.list___mul___list_int_3 l its.toArray n k t hfit hcap hlong) ⟨e, ?_⟩⟩)
  rw [hnew]
  exact ⟨.ref _, _, I.lnew (t' := s.toks) (r.rep k.toNat) (by rw [len_rep, Nat.mul_comm]; exact hz), rfl, q _ I.fresh⟩
end
section
variable {prog : Program} {w : World} {A : Around} {E : Value → Shared → Prop} {s : Shared}
end
section
variable {X : Cx}
end
end L2
namespace Att
open PySem PySem.W PySem.Calls PyProof.Rows
theorem ints_of_wellAll {P : Params} {h : Heap} : ∀ (ns : List Int) (vs : List Value), WellAll P h vs (ns.map WData.int) → IntsAre vs ns := by
  intro ns
  induction ns with
  | nil =>
    intro vs w
    rw [List.map_nil] at w
    cases w
    exact .nil
  | cons n ns ih =>
    intro vs w
    rw [List.map_cons] at w
    cases w with
    | cons a b =>
      cases a
      exact .cons _ _ (ih _ b)
theorem script_of {l : OpenLaw} {n : Nat} (hn : l.most = some n) {P : Params} {h : Heap} {args : List WData} {vals : List Value}
    (hpre : l.row.toRowW.claim.pre args = true) (hwl : WellAll P h vals args) :
    ∃ a vs ns, vals = [Value.ref a] ∧ args = [WData.list (ns.map WData.int)] ∧ h.get? a = some { cls := .type "list", data := .seq vs.toArray } ∧ IntsAre vs ns ∧ ns.length ≤ n := by
  have hsh : WShape.hasAll [] args [.list .int] = true := (pre_splitW hpre).1
  have hc : l.pre.holds [] { args := args } = true := (pre_splitW hpre).2
  obtain ⟨d, r, rfl, h1, h2⟩ := hasAllW_cons hsh
  obtain rfl := hasAllW_nil h2
  obtain ⟨xs, rfl, h3⟩ := hasW_list h1
  obtain ⟨ns, rfl⟩ := items_int h3
  have hlen : ns.length ≤ n := by
    unfold OpenLaw.pre at hc
    have h4 : (WTm.not (.lt (.lit (.int (n : Int))) (.len (.arg 0)))).holds [] { args := [.list (ns.map .int)] } = true := by
      have h4 := (holds_andW hc).1
      rw [hn] at h4
      exact h4
    have h5 := condW_of h4 (w_not (w_lt w_lit (w_len_list (w_arg rfl))))
    rw [List.length_map] at h5
    refine Nat.le_of_not_lt fun q => ?_
    have q' : (n : Int) < ((ns.length : Nat) : Int) := by omega
    first
      | (rw [decide_eq_true q'] at h5; exact absurd h5 (by decide))
      | (simp at h5; omega)
  cases hwl with
  | cons w1 w2 =>
    cases w2
    cases w1 with
    | list ho hall => exact ⟨_, _, ns, rfl, rfl, ho, ints_of_wellAll ns _ hall, hlen⟩
theorem post_true (l : OpenLaw) (args : List WData) : l.row.toRowW.claim.post args (.bool true) args = true :=
  postW_of (r := l.row.toRowW) (X := (true == true))
    (show WShape.has [] (.bool true) .bool = true by first | rfl | decide | simp [WShape.has, WShape.arms, WShape.armsAll])
    (show (WTm.eq .res (.lit (.bool true))).value [] { args := args, res := some (.bool true), after := args } = some (.bool (true == true)) from w_eq_bool (w_res rfl) w_lit) rfl
theorem attach_call {l : OpenLaw} {n : Nat} {q : Program} {loose : List Str} {XP : (Str → Option Value) → Heap → Prop} {YP : World → Heap → Prop} {d : DefRec}
    (hn : l.most = some n) (hdf : d.params.defaults = [])
    (call : ∀ (w : World) (s₀ s₁ : Shared) (mg mb : Str → Option Value) (fa : Addr) (o : Obj) (pm cd doc : Value) (a : Addr) (vs : List Value) (ns : List Int),
      Ground q loose [] XP w s₀ mg mb s₁.heap → YP w s₁.heap →
      s₁.heap.get? fa = some o → o.data = .func (docDef d.name d.params d.body d.scope pm cd doc) → s₁.heap.CodeRec cd d.name → mg d.name = some (.ref fa) →
      s₁.heap.get? a = some { cls := .type "list", data := .seq vs.toArray } → IntsAre vs ns → ns.length ≤ n → s₁.gens = #[] →
      codeAny (model l.prog w) callerA (.call (.ref fa) ⟨[.ref a], []⟩) (fun r s' => r = .ok (.ret (.bool true)) ∧ OldK s₁.heap s'.heap ∧ s'.os = s₁.os ∧ AllBare s'.gens) s₁) :
    WalkO q loose XP YP l.row.toRowW d [] (fun f vs => PySem.call f vs) := by
  intro w s₀ s₁ mg mb G Y fa o pm cd doc dV kV ho hd hcd hD hmg hg args vals as hpre hlay hrd hwl hlo
  obtain rfl : dV = .none := Dflts.none hD hdf
  obtain rfl : kV = .none := Dflts.noKw hD
  obtain ⟨a, vs, ns, rfl, rfl, hobj, hints, hlen⟩ := script_of hn hpre hwl
  refine enter_call (codeAny_mono (call w s₀ s₁ mg mb fa o pm cd doc a vs ns G Y ho (fd_plain hd) hcd hmg hobj hints hlen hg) fun r s' hq => ?_)
  obtain ⟨rfl, h2, h3, h4⟩ := hq
  exact ⟨.inl ⟨.bool true, .bool true, [], rfl, fun _ => rfl, .bool true, post_true l _, fun _ => ⟨List.Pairwise.nil, fun _ hm => (nomatch hm)⟩⟩, h2, h3, h4⟩
section
variable {prog : Program} {w : World} {A : Around} {E : Value → Shared → Prop} {s : Shared} {K : Frag}
end
end Att
namespace L2
open PySem PySem.Spec PyProof.Rows
theorem vals_ints : ∀ {vs : List Value} {ns : List Int}, IntsAre vs ns → Vals (ns.map V.int) vs
  | _, _, .nil => .nil
  | _, _, .cons n t h => .cons ⟨t, rfl⟩ (vals_ints h)
def Only (H : Hp) : Prop := ∀ b, H b = none ∨ ∃ o xs, H b = some (.frz o (.lst xs))
theorem law_call {P : Program} {w : World} {K : PySem.W.Frag} {mg mb : Str → Option Value} {CX : CXT} {k : Nat} {fa a : Addr} {fd : FuncData} {x : Str} {sp : Sp} {s₁ : Shared} {vs : List Value} {ns : List Int}
    (KX : K.In s₁.heap) (hns : s₁.heap.Ns mainGlobals mg) (hb : s₁.heap.Ns builtinsNs mb) (hbb : ∀ x : Str, x ≠ "__name__" → mb x = bootBuiltins x) (hlim : s₁.heap.NoLimit) (hg : s₁.gens = #[])
    (ha : s₁.heap.get? a = some { cls := .type "list", data := .seq vs.toArray }) (hi : IntsAre vs ns) (hl : ns.length ≤ sizeLine) (hr : Room k callerA)
    (F : ∀ base : Heap, K.In base → base.Ns mainGlobals mg → FnOk P w K mg base CX k fa fd [x] sp) (hbind : ∀ (s : Shared) (u : Value), BindsTo s fd ⟨[u], []⟩ [(x, u)])
    (hsp : ∀ H : Hp, Only H → SqL K H a (ns.map V.int) → sp [.ref a] H (fun v _ => v = .bl true) fun _ _ _ => False)
    (hCX : ∀ H e s', CX [] H s₁ (fun _ _ _ => False) e s' → False) :
    codeAny (model P w) callerA (.call (.ref fa) ⟨[.ref a], []⟩) (fun r s' => r = .ok (.ret (.bool true)) ∧ OldK s₁.heap s'.heap ∧ s'.os = s₁.os ∧ AllBare s'.gens) s₁ := by
  have rv := vals_ints hi
  have lenV := hi.length
  -- from an abstract heap in which nothing but the script may be tracked
  have core : ∀ H : Hp, Only H → SqL K H a (ns.map V.int) → HOk P w H s₁.heap → (∀ b, H b ≠ none → b = a) → (H a ≠ none → K.lookup a = none) →
      codeAny (model P w) callerA (.call (.ref fa) ⟨[.ref a], []⟩) (fun r s' => r = .ok (.ret (.bool true)) ∧ OldK s₁.heap s'.heap ∧ s'.os = s₁.os ∧ AllBare s'.gens) s₁ := by
    intro H hO hS hok hA hK
    have base_of : ∀ {b : Addr} {o : Obj}, s₁.heap.get? b = some o → H b = none → (hidT s₁.heap H).get? b = some o := fun e n => hidT_get e n
    have noA : ∀ {b : Addr} {o : Obj} {es : Array DictEntry} {ep : Nat}, s₁.heap.get? b = some o → o.data = .dict es ep → H b = none := fun {b o es ep} e d => by
      cases q : H b with
      | none => rfl
      | some u =>
        have e' : b = a := hA b (by rw [q]; simp)
        subst e'
        rw [ha] at e; cases e
        have d' : Data.seq vs.toArray _ = Data.dict es ep := d
        cases d'
    have nsK : ∀ {b : Addr} {m : Str → Option Value}, s₁.heap.Ns b m → (hidT s₁.heap H).Ns b m := fun {b m} ⟨o, es, ep, e, d, r⟩ => ⟨o, es, ep, base_of e (noA e d), d, r⟩
    have hKb : K.In (hidT s₁.heap H) := fun b o e => base_of (KX b o e) (by
      cases q : H b with
      | none => rfl
      | some u =>
        have e' : b = a := hA b (by rw [q]; simp)
        subst e'
        rw [hK (by rw [q]; simp)] at e; cases e)
    have hM : Mod K mg (hidT s₁.heap H) := ⟨hKb, nsK hns, ⟨mb, nsK hb, hbb⟩, let ⟨mc, h1, h2⟩ := hlim; ⟨mc, nsK h1, h2⟩⟩
    have e0 : Env0 P w K mg (hidT s₁.heap H) callerA [] s₁ H := ⟨rfl, hM, fun b o e => of_hidT e, Nat.le_of_eq (hidT_size _ _), trivial, fun b hb => absurd (show b ∈ ([] : List Addr) from hb) (by simp), hok, .of_eq hg⟩
    refine codeAny_mono ((F _ hKb (nsK hns)).run callerA [] s₁ H ⟨[.ref a], []⟩ [.ref a] [.ref a] _ _ hr e0 (hbind s₁ (.ref a)) (.cons rfl .nil) (hsp H hO hS)) fun r s' h => ?_
    cases r with
    | error e => exact (hCX H e s' h).elim
    | ok fl =>
      cases fl with
      | next => exact False.elim h
      | brk => exact False.elim h
      | cont => exact False.elim h
      | ret u =>
        obtain ⟨v, H', os, bare, un, hok', r', q⟩ := h
        have q' : v = .bl true := q
        subst q'
        obtain rfl : u = Value.bool true := r'
        refine ⟨rfl, OldK.of_keep fun b o e => ?_, os, bare⟩
        cases q : H b with
        | none => exact un.keep b o e q (by intro z; exact absurd (show b ∈ ([] : List Addr) from z) (by simp)) (by simp)
        | some u =>
          rcases hO b with z | ⟨ob, xs, z⟩
          · rw [q] at z; cases z
          · have z2 := un.frzs b ob _ z
            obtain ⟨e1, _⟩ := hok b _ z
            obtain ⟨e2, _⟩ := hok' b _ z2
            rw [e] at e1; cases e1
            exact e2
  cases hk : K.lookup a with
  | some o =>
    -- the script is one of the module's own objects
    have e := KX a o hk
    rw [ha] at e
    cases e
    refine core (fun _ => none) (fun _ => .inl rfl) (.inr ⟨_, vs.toArray, _, hk, rfl, rfl, rfl, by rw [List.size_toArray, lenV]; exact hl, by simpa using rv⟩) (fun b u z => by have z' : (none : Option HO) = some u := z; cases z') (fun b z => absurd rfl z) fun z => absurd rfl z
  | none =>
    refine core (fun b => if b = a then some (.frz { cls := .type "list", data := .seq vs.toArray } (.lst (ns.map V.int))) else none) (fun b => ?_) (.inl (.inr ⟨{ cls := .type "list", data := .seq vs.toArray }, if_pos rfl⟩)) (fun b u z => ?_) (fun b z => ?_) fun _ => hk
    · by_cases hb : b = a
      · exact .inr ⟨_, _, if_pos hb⟩
      · exact .inl (if_neg hb)
    · by_cases hb : b = a
      · have z' := (if_pos hb).symm.trans z
        cases z'
        subst hb
        exact ⟨ha, by rw [List.length_map]; exact hl, vs, _, rv, ha⟩
      · have z' := (if_neg hb).symm.trans z
        cases z'
    · by_cases hb : b = a
      · exact hb
      · exact absurd (if_neg hb) z
end L2
namespace L2
open PySem PySem.Spec PyProof.Rows
theorem walk_of {l : PySem.W.OpenLaw} {n k : Nat} {q : Program} {loose : List Str} {XP : (Str → Option Value) → Heap → Prop} {YP : World → Heap → Prop} {d : DefRec} {K : Params → PySem.W.Frag} {CX : World → CXT} {sp : World → Sp} {x : Str}
    (hn : l.most = some n) (hn2 : n ≤ sizeLine) (hdf : d.params.defaults = []) (hr : Room k callerA)
    (hY : ∀ (w : World) (h : Heap), YP w h → (K w.params).In h)
    (F : ∀ (w : World) (mg : Str → Option Value) (fa : Addr) (h : Heap), (K w.params).In h → h.Ns mainGlobals mg → mg d.name = some (.ref fa) →
      ∃ fd : FuncData, (∀ (s : Shared) (u : Value), BindsTo s fd ⟨[u], []⟩ [(x, u)]) ∧
        ∀ base : Heap, (K w.params).In base → base.Ns mainGlobals mg → FnOk l.prog w (K w.params) mg base (CX w) k fa fd [x] (sp w))
    (hsp : ∀ (w : World) (H : Hp) (a : Addr) (ns : List Int), ns.length ≤ n → Only H → SqL (K w.params) H a (ns.map V.int) → sp w [.ref a] H (fun v _ => v = .bl true) fun _ _ _ => False)
    (hCX : ∀ (w : World) (H : Hp) (s : Shared) (e : Value) (s' : Shared), CX w [] H s (fun _ _ _ => False) e s' → False) :
    PySem.W.WalkO q loose XP YP l.row.toRowW d [] (fun f vs => PySem.call f vs) := by
  refine Att.attach_call hn hdf fun w s₀ s₁ mg mb fa o pm cd doc a vs ns G Y ho hd hcd hmg hobj hints hlen hg => ?_
  have KX := hY w _ Y
  obtain ⟨fd, hb, hF⟩ := F w mg fa _ KX G.T.g hmg
  exact law_call KX G.T.g G.T.b G.T.builtins G.T.nolimit hg hobj hints (Nat.le_trans hlen hn2) hr hF hb (fun H hO hS => hsp w H a ns hlen hO hS) fun H e s' => hCX w H s₁ e s'
end L2
namespace L2
open PySem PySem.Spec PyProof.Rows
def inClass (s : Stmt) (j : Nat) : Stmt := match s with
  | .ClassDef _ _ _ body _ _ _ _ _ _ _ => body.getD j (.Pass ⟨0, 0, 0, 0⟩)
  | _ => .Pass ⟨0, 0, 0, 0⟩
def defArgs (s : Stmt) : Arguments := match s with
  | .FunctionDef _ a _ _ _ _ _ _ _ _ => a
  | _ => { posonlyargs := [], args := [], vararg := none, kwonlyargs := [], kw_defaults := [], kwarg := none, defaults := [] }
def defBody (s : Stmt) : List Stmt := match s with
  | .FunctionDef _ _ b _ _ _ _ _ _ _ => b
  | _ => []
def defScope (s : Stmt) : Scope := match s with
  | .FunctionDef _ _ _ _ _ _ sc _ _ _ => sc
  | _ => { kind := .function, names := [], isGenerator := false, isCoroutine := false }
abbrev CX0 : CXT := fun _ _ _ _ _ _ => False
abbrev E0 : XK := fun _ _ _ => False
theorem pass0 {X : Cx} : Passes CX0 X E0 := fun _ _ _ _ _ _ _ h => h.elim
structure Fun (K : PySem.W.Frag) (x qual : Str) (st : Stmt) (f : Addr) (fd : FuncData) : Prop where
  ex : ∃ (oc : Value) (od : Option Addr) (kV doc pm : Value) (an : Option Addr) (cdv ct : Value) (osl : Array (Option Value)),
    fd = PySem.W.fnOf x qual (defArgs st) (defBody st) (defScope st) .none kV doc pm an cdv ct ∧ K.lookup f = some ⟨oc, od, .func fd, osl⟩ ∧ PySem.W.codeIn K cdv qual = true
  kp : PySem.W.keepIn K (.ref f) = true
section
variable {P : Program} {w : World} {K : PySem.W.Frag} {mg : Str → Option Value} {base : Heap}
theorem Fun.ok {x qual : Str} {st : Stmt} {f : Addr} {fd : FuncData} {N ps : List Str} {k : Nat} {sp : Sp} (F : Fun K x qual st f fd) (S : FnScope N ps (defScope st)) (len : ∀ vs H Q E, sp vs H Q E → vs.length = ps.length)
    (hbody : ∀ (cdv : Value) (A : Around) (outer : List Env) (s : Shared) (H : Hp) (vs : List V) (Q : VK) (E : XK), Room k (A.deeper (envOfC qual (defScope st) s.heap.objs.size f cdv)) → sp vs H Q E →
      ∃ t, PSs (cxOf CX0 P w K mg base N qual (defScope st) f cdv A outer s H E).nox (defBody st) t ∧ t { nx := fun _ H' => Q .non H', rt := Q } (start N vs) H) : FnOk P w K mg base CX0 (k + 1) f fd ps sp := by
  obtain ⟨oc, od, kV, doc, pm, an, cdv, ct, osl, rfl, lk, hcd⟩ := F.ex
  refine fn_of lk hcd S len fun A outer s H vs Q E hr hsp => ?_
  obtain ⟨t, h, q⟩ := hbody cdv A outer s H vs Q E hr hsp
  exact ⟨t, h.nox, q⟩
theorem Fun.binds {x qual : Str} {st : Stmt} {f : Addr} {fd : FuncData} {ps : List Str} (F : Fun K x qual st f fd)
    (h : ∀ (kV doc pm : Value) (an : Option Addr) (cdv ct : Value) (us : List Value), us.length = ps.length → bindArgs (PySem.W.fnOf x qual (defArgs st) (defBody st) (defScope st) .none kV doc pm an cdv ct) ⟨us, []⟩ = pure (ps.zip us)) : Binds K fd ps [] := by
  obtain ⟨oc, od, kV, doc, pm, an, cdv, ct, osl, rfl, lk, hcd⟩ := F.ex
  exact .all (h kV doc pm an cdv ct)
theorem fun_mk {x qual : Str} {st : Stmt} {f : Addr} {oc : Value} {od an : Option Addr} {osl : Array (Option Value)} {kV doc pm cdv ct : Value} (l : K.lookup f = some ⟨oc, od, .func (PySem.W.fnOf x qual (defArgs st) (defBody st) (defScope st) .none kV doc pm an cdv ct), osl⟩)
    (c : PySem.W.codeIn K cdv qual = true) (k : PySem.W.keepIn K (.ref f) = true) : Fun K x qual st f (PySem.W.fnOf x qual (defArgs st) (defBody st) (defScope st) .none kV doc pm an cdv ct) := ⟨⟨oc, od, kV, doc, pm, an, cdv, ct, osl, rfl, l, c⟩, k⟩
end
theorem hu_of {A : Around} {k : Nat} (hr : Room k A) : A.units + 1 < cLine := Nat.lt_of_le_of_lt (Nat.add_le_add_left (by decide : 1 ≤ 64) _) hr.units
theorem small1000 {n : Nat} (h : n ≤ 1000) : n < sizeLine := Nat.lt_of_le_of_lt h (by decide)
section
variable {X : Cx}
theorem pv (i : Nat) {x : Str} {pos : Pos} (hN : X.N[i]? = some x := by rfl) (hv : Vis X.env.scope x := by first | exact Or.inl rfl | exact Or.inr (Or.inl rfl) | exact Or.inr (Or.inr rfl)) (hd : (x == ("__debug__" : Str)) = false := by decide)
    (hcd : (x == ("__classdict__" : Str)) = false := by decide) : PE X (.Name x pos) (tVar i) := pe_var hN hv hd hcd
end
theorem iteF {A B : Prop} (h : B) : if false = true then A else B := by
  rw [if_neg Bool.false_ne_true]
  exact h
theorem iteT {A B : Prop} (h : A) : if true = true then A else B := by
  rw [if_pos rfl]
  exact h
theorem ite2 {c A B : Prop} [Decidable c] (h1 : c → A) (h2 : ¬ c → B) : if c then A else B := by
  by_cases h : c
  · rw [if_pos h]
    exact h1 h
  · rw [if_neg h]
    exact h2 h
theorem iteNS {c A B : Prop} [Decidable c] (hc : c) (h : B) : if (!decide c) = true then A else B := by
  rw [decide_eq_true hc]
  exact iteF h
def Same (H H' : Hp) : Prop := ∀ b o, H b = some o → H' b = some o
theorem Same.refl (H : Hp) : Same H H := fun _ _ h => h
theorem Same.trans {H H1 H2 : Hp} (a : Same H H1) (b : Same H1 H2) : Same H H2 := fun c o h => b c o (a c o h)
theorem Same.free {H H' : Hp} (e : Same H H') {l : Addr} (h : H' l = Option.none) : H l = Option.none := by
  cases q : H l with
  | none => rfl
  | some o =>
    rw [e l o q] at h
    cases h
theorem Same.seq {K : PySem.W.Frag} {H H' : Hp} {a : Addr} {xs : List V} (e : Same H H') (h : SqL K H a xs) : SqL K H' a xs := by
  rcases h with (h | ⟨o, h⟩) | h
  · exact .inl (.inl (e _ _ h))
  · exact .inl (.inr ⟨o, e _ _ h⟩)
  · exact .inr h
end L2
namespace L2
open PySem PySem.Spec PyProof.Rows
section
variable {κ : Type} [DecidableEq κ]
def valV (kvs : List (κ × V)) (k : κ) : Option V := (kvs.find? fun kv => decide (kv.1 = k)).map (·.2)
def putK (kvs : List (κ × V)) (k : κ) (v : V) : List (κ × V) :=
  if (kvs.any fun kv => decide (kv.1 = k)) = true then kvs.map (fun kv => if kv.1 = k then (kv.1, v) else kv) else kvs ++ [(k, v)]
def dropK (kvs : List (κ × V)) (k : κ) : List (κ × V) := kvs.filter fun kv => decide (kv.1 ≠ k)
theorem valV_nil {k : κ} : valV ([] : List (κ × V)) k = none := rfl
theorem valV_pos {p : κ × V} {r : List (κ × V)} {k : κ} (e : p.1 = k) : valV (p :: r) k = some p.2 := by simp [valV, List.find?_cons, e]
theorem valV_neg {p : κ × V} {r : List (κ × V)} {k : κ} (e : ¬ p.1 = k) : valV (p :: r) k = valV r k := by simp [valV, List.find?_cons, e]
theorem valV_any (k : κ) : ∀ kvs : List (κ × V), (kvs.any fun kv => decide (kv.1 = k)) = (valV kvs k).isSome
  | [] => rfl
  | p :: r => by
    rw [List.any_cons]
    by_cases e : p.1 = k
    · simp only [valV_pos e, decide_eq_true e, Bool.true_or, Option.isSome_some]
    · rw [valV_neg e, decide_eq_false e, Bool.false_or]; exact valV_any k r
theorem valV_map (k j : κ) (y : V) : ∀ kvs : List (κ × V), valV (kvs.map fun kv => if kv.1 = k then (kv.1, y) else kv) j = (valV kvs j).map fun x => if j = k then y else x
  | [] => rfl
  | p :: r => by
    have ih := valV_map k j y r
    rw [List.map_cons]
    by_cases h : p.1 = k
    · rw [if_pos h]
      by_cases e : p.1 = j
      · rw [valV_pos (p := (p.1, y)) e, valV_pos e, Option.map_some, if_pos (e.symm.trans h)]
      · rw [valV_neg (p := (p.1, y)) e, valV_neg e, ih]
    · rw [if_neg h]
      by_cases e : p.1 = j
      · rw [valV_pos (p := p) e, valV_pos e, Option.map_some, if_neg (fun z => h (e.trans z))]
      · rw [valV_neg (p := p) e, valV_neg e, ih]
theorem valV_snoc (k j : κ) (y : V) : ∀ kvs : List (κ × V), valV kvs k = none → valV (kvs ++ [(k, y)]) j = if j = k then some y else valV kvs j
  | [], _ => by
    by_cases e : k = j
    · rw [if_pos e.symm]; exact valV_pos (p := (k, y)) e
    · rw [if_neg (fun z => e z.symm)]; exact valV_neg (p := (k, y)) e
  | p :: r, hn => by
    rw [List.cons_append]
    have hk : ¬ p.1 = k := fun z => by rw [valV_pos z] at hn; cases hn
    rw [valV_neg hk] at hn
    have ih := valV_snoc k j y r hn
    by_cases e : p.1 = j
    · rw [valV_pos e, valV_pos e, if_neg (fun z => hk (e.trans z))]
    · rw [valV_neg e, valV_neg e, ih]
theorem valV_put (kvs : List (κ × V)) (k j : κ) (y : V) : valV (putK kvs k y) j = if j = k then some y else valV kvs j := by
  unfold putK
  by_cases a : (kvs.any fun kv => decide (kv.1 = k)) = true
  · rw [if_pos a, valV_map]
    rw [valV_any] at a
    by_cases e : j = k
    · obtain ⟨x, hx⟩ := Option.isSome_iff_exists.mp a
      rw [if_pos e, e, hx, Option.map_some, if_pos rfl]
    · rw [if_neg e]
      cases valV kvs j with
      | none => rfl
      | some x => rw [Option.map_some, if_neg e]
  · rw [if_neg a]
    refine valV_snoc k j y kvs ?_
    rw [valV_any] at a
    cases q : valV kvs k with
    | none => rfl
    | some x => rw [q] at a; exact (a rfl).elim
theorem length_putK (kvs : List (κ × V)) (k : κ) (v : V) : (putK kvs k v).length ≤ kvs.length + 1 := by
  unfold putK
  split
  · rw [List.length_map]; omega
  · rw [List.length_append, List.length_cons, List.length_nil]; omega
theorem putK_new {kvs : List (κ × V)} {k : κ} (v : V) (h : valV kvs k = none) : putK kvs k v = kvs ++ [(k, v)] := by
  unfold putK
  rw [valV_any, h]
  exact if_neg (by decide)
theorem RelO.isSome_eq {o : Option V} {u : Option Value} (r : RelO o u) : o.isSome = u.isSome := by
  cases o with
  | none => cases u with
    | none => rfl
    | some _ => exact (show False from r).elim
  | some _ => cases u with
    | none => exact (show False from r).elim
    | some _ => rfl
theorem RelO.getD {o : Option V} {u : Option Value} {d : V} {d' : Value} (r : RelO o u) (rd : RelV d d') : RelV (o.getD d) (u.getD d') := by
  cases o with
  | none => cases u with
    | none => exact rd
    | some _ => exact (show False from r).elim
  | some _ => cases u with
    | none => exact (show False from r).elim
    | some _ => exact r
theorem KV.val {kvs : List (κ × V)} {vs : List (κ × Value)} (r : KV kvs vs) (k : κ) : RelO (valV kvs k) (valueAt vs k) := by
  unfold KV at r
  induction r with
  | nil => exact True.intro
  | @cons p q ps qs h t ih =>
    obtain ⟨h1, h2⟩ := h
    by_cases e : p.1 = k
    · have e' : q.1 = k := h1.symm.trans e
      have b : valueAt (q :: qs) k = some q.2 := by simp [valueAt, List.find?_cons, e']
      rw [valV_pos e, b]; exact h2
    · have e' : ¬ q.1 = k := fun z => e (h1.trans z)
      have b : valueAt (q :: qs) k = valueAt qs k := by simp [valueAt, List.find?_cons, e']
      rw [valV_neg e, b]; exact ih
theorem KV.any {kvs : List (κ × V)} {vs : List (κ × Value)} (r : KV kvs vs) (k : κ) : (kvs.any fun kv => decide (kv.1 = k)) = vs.any fun kv => decide (kv.1 = k) := by
  unfold KV at r
  induction r with
  | nil => rfl
  | cons h t ih => rw [List.any_cons, List.any_cons, ih, h.1]
theorem KV.repl {kvs : List (κ × V)} {vs : List (κ × Value)} (r : KV kvs vs) (k : κ) {y : V} {u : Value} (ry : RelV y u) :
    KV (kvs.map fun kv => if kv.1 = k then (kv.1, y) else kv) (vs.map fun kv => if kv.1 = k then (kv.1, u) else kv) := by
  unfold KV at r ⊢
  induction r with
  | nil => exact .nil
  | @cons p q ps qs h t ih =>
    rw [List.map_cons, List.map_cons]
    refine .cons ?_ ih
    obtain ⟨h1, h2⟩ := h
    by_cases e : p.1 = k
    · rw [if_pos e, if_pos (h1.symm.trans e)]; exact ⟨h1, ry⟩
    · rw [if_neg e, if_neg (fun z => e (h1.trans z))]; exact ⟨h1, h2⟩
theorem KV.put {kvs : List (κ × V)} {vs : List (κ × Value)} (r : KV kvs vs) (k : κ) {y : V} {u : Value} (ry : RelV y u) : KV (putK kvs k y) (stored vs k u) := by
  unfold putK stored
  rw [r.any k]
  by_cases e : (vs.any fun kv => decide (kv.1 = k)) = true
  · rw [if_pos e, if_pos e]; exact r.repl k ry
  · rw [if_neg e, if_neg e]; exact Paired.snoc r ⟨rfl, ry⟩
theorem KV.drop {kvs : List (κ × V)} {vs : List (κ × Value)} (r : KV kvs vs) (k : κ) : KV (dropK kvs k) (without vs k) := by
  unfold KV at r ⊢
  unfold dropK without
  induction r with
  | nil => exact .nil
  | @cons p q ps qs h t ih =>
    obtain ⟨h1, h2⟩ := h
    rw [List.filter_cons, List.filter_cons]
    by_cases e : p.1 = k
    · have a : ¬ decide (p.1 ≠ k) = true := by simp [e]
      have b : ¬ decide (q.1 ≠ k) = true := by simp [h1.symm.trans e]
      rw [if_neg a, if_neg b]; exact ih
    · have e' : ¬ q.1 = k := fun z => e (h1.trans z)
      have a : decide (p.1 ≠ k) = true := by simp [e]
      have b : decide (q.1 ≠ k) = true := by simp [e']
      rw [if_pos a, if_pos b]; exact .cons ⟨h1, h2⟩ ih
theorem KV.length {kvs : List (κ × V)} {vs : List (κ × Value)} (r : KV kvs vs) : kvs.length = vs.length := Paired.length r
theorem dropK_le (kvs : List (κ × V)) (k : κ) : (dropK kvs k).length ≤ kvs.length := List.length_filter_le _ _
end
theorem kV_is {P : Program} {w : World} {k : Key} {u : Value} (r : RelV (kV k) u) : (mixKind P w).is k u = true := by
  cases k with
  | inl i => obtain ⟨t, e⟩ := (show ∃ t, u = Value.int i t from r); subst e; exact mixKind_int P w i t
  | inr x => obtain ⟨t, e⟩ := (show ∃ t, u = Value.str x t from r); subst e; exact mixKind_str P w x t
theorem items_are {P : Program} {w : World} : ∀ {ks : List Key} {us : List Value}, Vals (ks.map kV) us → ItemsAre (mixKind P w) ks us
  | [], _, r => by rw [List.map_nil] at r; cases r; exact .nil
  | k :: ks, _, r => by
    rw [List.map_cons] at r
    cases r with
    | cons h t => exact .cons (kV_is h) (items_are t)
abbrev KT (H : Hp) : List (List Key × V) → List (List Key × Addr × Value) → Prop := Paired fun p q => p.1 = q.1 ∧ H q.2.1 = some (.tup (p.1.map kV)) ∧ RelV p.2 q.2.2
theorem KT.val {H : Hp} {kvs : List (List Key × V)} {xs : List (List Key × Addr × Value)} (r : KT H kvs xs) (k : List Key) : RelO (valV kvs k) ((atKey xs k).map (·.2)) := by
  induction r with
  | nil => exact True.intro
  | @cons p q ps qs h t ih =>
    obtain ⟨h1, _, h2⟩ := h
    by_cases e : p.1 = k
    · have e' : q.1 = k := h1.symm.trans e
      have b : atKey (q :: qs) k = some q.2 := by simp [atKey, List.find?_cons, e']
      rw [valV_pos e, b]; exact h2
    · have e' : ¬ q.1 = k := fun z => e (h1.trans z)
      have b : atKey (q :: qs) k = atKey qs k := by simp [atKey, List.find?_cons, e']
      rw [valV_neg e, b]; exact ih
theorem KT.repl {H : Hp} {kvs : List (List Key × V)} {xs : List (List Key × Addr × Value)} (r : KT H kvs xs) (k : List Key) {y : V} {u : Value} (ry : RelV y u) :
    KT H (kvs.map fun kv => if kv.1 = k then (kv.1, y) else kv) (xs.map (putAt k u)) := by
  induction r with
  | nil => exact .nil
  | @cons p q ps qs h t ih =>
    rw [List.map_cons, List.map_cons]
    refine .cons ?_ ih
    obtain ⟨h1, h2, h3⟩ := h
    unfold putAt
    by_cases e : p.1 = k
    · rw [if_pos e, if_pos (h1.symm.trans e)]; exact ⟨h1, h2, ry⟩
    · rw [if_neg e, if_neg (fun z => e (h1.trans z))]; exact ⟨h1, h2, h3⟩
theorem KT.put {H : Hp} {kvs : List (List Key × V)} {xs : List (List Key × Addr × Value)} (r : KT H kvs xs) (k : List Key) {b : Addr} {y : V} {u : Value} (hb : H b = some (.tup (k.map kV))) (ry : RelV y u) :
    KT H (putK kvs k y) (storedH xs k b u) := by
  have e : (kvs.any fun kv => decide (kv.1 = k)) = (atKey xs k).isSome := by
    rw [valV_any, (r.val k).isSome_eq, Option.isSome_map]
  unfold putK storedH
  rw [e]
  by_cases q : (atKey xs k).isSome = true
  · rw [if_pos q, if_pos q]; exact r.repl k ry
  · rw [if_neg q, if_neg q]; exact Paired.snoc r ⟨rfl, hb, ry⟩
theorem KT.keeps {H H' : Hp} {kvs : List (List Key × V)} {xs : List (List Key × Addr × Value)} (r : KT H kvs xs) (ht : ∀ b ys, H b = some (.tup ys) → H' b = some (.tup ys)) : KT H' kvs xs :=
  Paired.mapP r fun _ _ z => ⟨z.1, ht _ _ z.2.1, z.2.2⟩
section
variable {P : Program} {w : World} {H : Hp} {h : Heap} {a : Addr}
theorem rd_of {u : HO} (ok : HOk P w H h) (e : Rd H a u) : ObjOk P w H h a u := e.ok ok
theorem dk_rd {kvs : List (Key × V)} (ok : HOk P w H h) (e : Rd H a (.dK kvs)) : kvs.length ≤ sizeLine ∧ (a == sysModules) = false ∧ ∃ vs, KV kvs vs ∧ h.DictOf (mixKind P w) a vs :=
  show ObjOk P w H h a (.dK kvs) from rd_of ok e
theorem dk_of {kvs : List (Key × V)} (ok : HOk P w H h) (e : H a = some (.dK kvs)) : kvs.length ≤ sizeLine ∧ (a == sysModules) = false ∧ ∃ vs, KV kvs vs ∧ h.DictOf (mixKind P w) a vs := dk_rd ok (.inl e)
theorem key_of {ks : List Key} (ok : HOk P w H h) (e : H a = some (.tup (ks.map kV))) : (tupleKind (mixKind P w)).is h ks a := by
  obtain ⟨_, its, r, o, h1, h2, n, h3⟩ := (show ObjOk P w H h a (.tup (ks.map kV)) from ok a _ e)
  exact ⟨o, its.toArray, n, h1, h2, h3, by simpa using items_are r⟩
theorem dt_rd {kvs : List (List Key × V)} (ok : HOk P w H h) (e : Rd H a (.dT kvs)) : kvs.length ≤ sizeLine ∧ (a == sysModules) = false ∧
    ∃ xs, KT H kvs xs ∧ h.DictOfH (tupleKind (mixKind P w)) a xs := by
  obtain ⟨z, y, xs, r, o, es, ep, h1, h2, h3, h4, h5⟩ := (show ObjOk P w H h a (.dT kvs) from rd_of ok e)
  refine ⟨z, y, xs, r, o, es, ep, h1, h2, h3, h4, fun x hx => ?_, h5⟩
  have all : ∀ {l : List (List Key × V)} {m : List (List Key × Addr × Value)}, KT H l m → ∀ x ∈ m, (tupleKind (mixKind P w)).is h x.1 x.2.1 := by
    intro l m q
    induction q with
    | nil => intro x hx; exact nomatch hx
    | @cons p q ps qs hq t ih =>
      intro x hx
      rcases List.mem_cons.mp hx with e | hx
      · subst e
        exact key_of ok (by rw [← hq.1]; exact hq.2.1)
      · exact ih x hx
  exact all r x hx
theorem dt_of {kvs : List (List Key × V)} (ok : HOk P w H h) (e : H a = some (.dT kvs)) : kvs.length ≤ sizeLine ∧ (a == sysModules) = false ∧
    ∃ xs, KT H kvs xs ∧ h.DictOfH (tupleKind (mixKind P w)) a xs := dt_rd ok (.inl e)
end
def DGet (H : Hp) (a : Addr) (y : V) (r : Option V) : Prop :=
  (∃ kvs k, Rd H a (.dK kvs) ∧ y = kV k ∧ r = valV kvs k) ∨ ∃ kvs k b, Rd H a (.dT kvs) ∧ y = .ref b ∧ H b = some (.tup (k.map kV)) ∧ r = valV kvs k
def DPut (H : Hp) (a : Addr) (y v : V) (H' : Hp) : Prop :=
  (∃ kvs k, H a = some (.dK kvs) ∧ y = kV k ∧ kvs.length < sizeLine ∧ H' = upd H a (.dK (putK kvs k v))) ∨
  ∃ kvs k b, H a = some (.dT kvs) ∧ y = .ref b ∧ H b = some (.tup (k.map kV)) ∧ kvs.length < sizeLine ∧ H' = upd H a (.dT (putK kvs k v))
theorem DGet.k {H : Hp} {a : Addr} {kvs : List (Key × V)} {k : Key} (e : H a = some (.dK kvs)) : DGet H a (kV k) (valV kvs k) := .inl ⟨kvs, k, .inl e, rfl, rfl⟩
theorem DPut.k {H : Hp} {a : Addr} {kvs : List (Key × V)} {k : Key} {v : V} (e : H a = some (.dK kvs)) (hl : kvs.length < sizeLine) : DPut H a (kV k) v (upd H a (.dK (putK kvs k v))) := .inl ⟨kvs, k, e, rfl, hl, rfl⟩
section
variable {X : Cx} {pins : List (Addr × Obj)} {σ : St} {H : Hp} {s : Shared} {a : Addr} {y v : V} {u r : Value} {o : Option V} {A : Around} {E : Value → Shared → Prop}
theorem Inv.big (I : Inv X pins σ H s) : sysModules < s.heap.objs.size := by
  have h : mainGlobals < s.heap.objs.size := (I.mod.glob.keeps I.bk).lt
  exact Nat.lt_trans (by decide) h
theorem d_getItem {Q : Value → Shared → Prop} (hu : A.units + 1 < cLine) (I : Inv X pins σ H s) (g : DGet H a y (some v)) (ry : RelV y u) (h : ∀ w' s', Inv X pins σ H s' → RelV v w' → Q w' s') :
    wpAny (model X.prog X.w) A (getItem (.ref a) u) Q E s := by
  rcases g with ⟨kvs, k, e, ey, l⟩ | ⟨kvs, k, b, e, ey, eb, l⟩
  · subst ey
    obtain ⟨z, hd, vs, rel, dd⟩ := dk_rd I.hok e
    obtain ⟨w', hw, rw'⟩ := RelO.some_of (v := v) (o := valueAt vs k) (by rw [l]; exact rel.val k)
    exact wpAny_getItem_of (kV_is ry) dd.mapOf hw (h w' _ (I.tok _) rw')
  · subst ey
    cases (show u = Value.ref b from ry)
    obtain ⟨z, hd, xs, rel, dd⟩ := dt_rd I.hok e
    obtain ⟨w', hw, rw'⟩ := RelO.some_of (v := v) (o := (atKey xs k).map (·.2)) (by rw [l]; exact rel.val k)
    obtain ⟨p, hp, hp2⟩ := Option.map_eq_some_iff.mp hw
    refine wpAny_getItem_heap (tupleKind_room_in1 hu) (key_of I.hok eb) dd hp ?_
    rw [hp2]
    exact h w' _ (I.tok _) rw'
theorem d_in {Q : Value → Shared → Prop} (hu : A.units + 1 < cLine) (I : Inv X pins σ H s) (g : DGet H a y o) (ry : RelV y u) (h : ∀ s', Inv X pins σ H s' → Q (.bool o.isSome) s') :
    wpAny (model X.prog X.w) A (compareOp .In u (.ref a)) Q E s := by
  rcases g with ⟨kvs, k, e, ey, l⟩ | ⟨kvs, k, b, e, ey, eb, l⟩
  · subst ey
    obtain ⟨z, hd, vs, rel, dd⟩ := dk_rd I.hok e
    refine wpAny_in_of (kV_is ry) hd dd.mapOf ?_
    rw [← (rel.val k).isSome_eq, ← l]
    exact h _ (I.tok _)
  · subst ey
    cases (show u = Value.ref b from ry)
    obtain ⟨z, hd, xs, rel, dd⟩ := dt_rd I.hok e
    refine wpAny_in_heap (tupleKind_room_in1 hu) (key_of I.hok eb) hd dd ?_
    have q := (rel.val k).isSome_eq
    rw [Option.isSome_map] at q
    rw [← q, ← l]
    exact h _ (I.tok _)
theorem d_notIn {Q : Value → Shared → Prop} (hu : A.units + 1 < cLine) (I : Inv X pins σ H s) (g : DGet H a y o) (ry : RelV y u) (h : ∀ s', Inv X pins σ H s' → Q (.bool (!o.isSome)) s') :
    wpAny (model X.prog X.w) A (compareOp .NotIn u (.ref a)) Q E s := by
  rcases g with ⟨kvs, k, e, ey, l⟩ | ⟨kvs, k, b, e, ey, eb, l⟩
  · subst ey
    obtain ⟨z, hd, vs, rel, dd⟩ := dk_rd I.hok e
    refine wpAny_notIn_of (kV_is ry) hd dd.mapOf ?_
    rw [← (rel.val k).isSome_eq, ← l]
    exact h _ (I.tok _)
  · subst ey
    cases (show u = Value.ref b from ry)
    obtain ⟨z, hd, xs, rel, dd⟩ := dt_rd I.hok e
    refine wpAny_notIn_heap (tupleKind_room_in1 hu) (key_of I.hok eb) hd dd ?_
    have q := (rel.val k).isSome_eq
    rw [Option.isSome_map] at q
    rw [← q, ← l]
    exact h _ (I.tok _)
theorem d_write {h' : Heap} {t' : Nat} {ob : HO} (I : Inv X pins σ H s) (mu : Mut (H a)) (hs : Heap.SameBut a s.heap h') (he : ∃ q, h'.get? a = some q) (new : ObjOk X.prog X.w (upd H a ob) h' a ob) :
    Inv X pins σ (upd H a ob) { s with heap := h', toks := t' } :=
  I.write (x := a) (e := a) mu (.inl rfl) (fun b q hb z => (hs.2 b hb).trans z) he new
theorem dk_new {P : Program} {w : World} {H' : Hp} {h' : Heap} {kvs : List (Key × V)} {vs : List (Key × Value)} (z : kvs.length ≤ sizeLine) (hd : (a == sysModules) = false) (rel : KV kvs vs) (dd : h'.DictOf (mixKind P w) a vs) :
    ObjOk P w H' h' a (.dK kvs) := ⟨z, hd, vs, rel, dd⟩
theorem d_setItem {H' : Hp} {Q : Unit → Shared → Prop} (hu : A.units + 1 < cLine) (I : Inv X pins σ H s) (g : DPut H a y v H') (ry : RelV y u) (rv : RelV v r) (h : ∀ s', Inv X pins σ H' s' → Q () s') :
    wpAny (model X.prog X.w) A (setItem (.ref a) u r) Q E s := by
  rcases g with ⟨kvs, k, e, ey, l, eH⟩ | ⟨kvs, k, b, e, ey, eb, l, eH⟩
  · subst ey eH
    obtain ⟨z, hd, vs, rel, dd⟩ := dk_of I.hok e
    have hz : vs.length ≤ sizeLine := by rw [← rel.length]; exact z
    have hl : (putK kvs k v).length ≤ sizeLine := by have := length_putK kvs k v; omega
    refine wpAny_setItem_pairs (hsz := hz) (kV_is ry) dd fun h' dd' hs => h _ ?_
    have he : ∃ q, h'.get? a = some q := let ⟨q, _, _, hq, _⟩ := dd'; ⟨q, hq⟩
    exact d_write I (by rw [e]; exact True.intro) hs he (dk_new hl hd (rel.put k rv) dd')
  · subst ey eH
    cases (show u = Value.ref b from ry)
    obtain ⟨z, hd, xs, rel, dd⟩ := dt_of I.hok e
    have hz : xs.length ≤ sizeLine := by rw [← Paired.length rel]; exact z
    have hl : (putK kvs k v).length ≤ sizeLine := by have := length_putK kvs k v; omega
    refine wpAny_setItem_heap (hsz := hz) (tupleKind_room_in1 hu) (key_of I.hok eb) dd fun h' dd' hs => h _ ?_
    obtain ⟨q, es, ep, hq, h2, h3, h4, _, h5⟩ := dd'
    refine d_write I (by rw [e]; exact True.intro) hs ⟨q, hq⟩ ⟨hl, hd, _, (rel.put k eb rv).keeps fun c ys ec => ?_, q, es, ep, hq, h2, h3, h4, h5⟩
    rw [upd_ne (ne_of ec e (fun z => nomatch z))]
    exact ec
end
section
variable {X : Cx} {pins : List (Addr × Obj)} {σ : St} {H : Hp} {s : Shared} {a : Addr} {kvs : List (Key × V)} {k : Key} {u : Value} {A : Around} {E : Value → Shared → Prop}
theorem d_pop {v : V} {more : List Value} {Q : Value → Shared → Prop} (I : Inv X pins σ H s) (e : H a = some (.dK kvs)) (ry : RelV (kV k) u) (l : valV kvs k = some v) (hm : more = [] ∨ ∃ x, more = [x])
    (h : ∀ w' s', Inv X pins σ (upd H a (.dK (dropK kvs k))) s' → RelV v w' → Q w' s') : wpAny (model X.prog X.w) A (call (.builtin "dict.pop") (.ref a :: u :: more)) Q E s := by
  obtain ⟨z, hd, vs, rel, dd⟩ := dk_of I.hok e
  obtain ⟨w', hw, rw'⟩ := RelO.some_of (v := v) (o := valueAt vs k) (by rw [← l]; exact rel.val k)
  have hp : (keyPart u).isSome = true := by
    cases k with
    | inl i => obtain ⟨t, q⟩ := (show ∃ t, u = Value.int i t from ry); subst q; rfl
    | inr x => obtain ⟨t, q⟩ := (show ∃ t, u = Value.str x t from ry); subst q; rfl
  have ha : argsOk "dict.pop" ⟨.ref a :: u :: more, []⟩ := by
    rcases hm with q | ⟨x, q⟩
    · subst q; exact PySem.F.args_dict_pop_2 _ _
    · subst q; exact PySem.F.args_dict_pop_3 _ _ _
  refine call_meetsIn PySem.F.slot_dict_pop dd.typeIs PySem.F.entry_dict_pop ha (meets_dict_pop_there (mixKind X.prog X.w) a (kV_is ry) more hm hp)
    ⟨vs, w', dd, by rw [← rel.length]; exact z, hw, fun h' dd' hs => h w' _ ?_ rw'⟩
  have he : ∃ q, h'.get? a = some q := let ⟨q, _, _, hq, _⟩ := dd'; ⟨q, hq⟩
  exact d_write I (by rw [e]; exact True.intro) hs he (dk_new (Nat.le_trans (dropK_le kvs k) z) hd (rel.drop k) dd')
end
def NoSl (i : Expr) : Prop := ∀ ov iv, subscripted i false ov iv = operate [ov, iv] (getItem ov iv)
theorem subD_of {prog : Program} {w : World} {A : Around} {E : Value → Shared → Prop} {s : Shared} {env : Env} {value slice : Expr} {pos : Pos} {T id : String} {Q : Value → Shared → Prop}
    (hl : typeLookup (.type T) "__getitem__" = pure (some (.builtin id))) (hs : NoSl slice)
    (h : wpAny (model prog w) A (eval value env) (fun o s₁ => wpAny (model prog w) A (eval slice env) (fun i s₂ => s₂.TypeIs o T ∧ wpAny (model prog w) A (getItem o i) Q E s₂) E s₁) E s) :
    wpAny (model prog w) A (eval (.Subscript value slice pos) env) Q E s := by
  refine Subscript_ (wpAny_mono h (fun o s₁ h₁ => wpAny_mono h₁ (fun i s₂ h₂ => ?_) fun _ _ x => x) fun _ _ x => x)
  obtain ⟨hT, h₂⟩ := h₂
  unfold subscriptTail
  refine wpAny_bind ?_
  rw [getitemInPython_of_ne hT.not_modules]
  refine wpAny_bind (wpAny_specialOf hT hl ?_)
  have fin : wpAny (model prog w) A (subscripted slice false o i) (fun r s₃ => wpAny (model prog w) A (letTemporaryGo value o r >>= fun _ => pure r) Q E s₃) E s₂ := by
    rw [hs o i]
    exact wpAny_operating (wpAny_mono h₂ (fun r s₃ h₃ => wpAny_bind (wpAny_letTemporaryGo (wpAny_pure h₃))) fun _ _ x => x)
  first
    | exact wpAny_pure (wpAny_bind fin)
    | exact wpAny_bind (wpAny_pure (wpAny_bind fin))
    | exact wpAny_bind fin
theorem dict_typeIs {X : Cx} {pins : List (Addr × Obj)} {σ : St} {H : Hp} {s : Shared} {a : Addr} {y : V} {o : Option V} (I : Inv X pins σ H s) (g : DGet H a y o) : s.TypeIs (.ref a) "dict" := by
  rcases g with ⟨kvs, k, e, _, _⟩ | ⟨kvs, k, b, e, _, _, _⟩
  · obtain ⟨_, _, vs, _, dd⟩ := dk_rd I.hok e
    exact dd.typeIs
  · obtain ⟨_, _, xs, _, dd⟩ := dt_rd I.hok e
    exact dd.typeIs
def tDGet (td ty : TE) : TE := fun σ H Q => td σ H fun x H1 => ty σ H1 fun y H2 => ∃ a v, x = .ref a ∧ DGet H2 a y (some v) ∧ Q v H2
def tDIn (ty td : TE) : TE := fun σ H Q => ty σ H fun y H1 => td σ H1 fun x H2 => ∃ a o, x = .ref a ∧ DGet H2 a y o ∧ Q (.bl o.isSome) H2
def tDNotIn (ty td : TE) : TE := fun σ H Q => ty σ H fun y H1 => td σ H1 fun x H2 => ∃ a o, x = .ref a ∧ DGet H2 a y o ∧ Q (.bl (!o.isSome)) H2
def sDPut (td ty tv : TE) : TS := fun D σ H => tv σ H fun v H1 => td σ H1 fun x H2 => ty σ H2 fun y H3 => ∃ a H4, x = .ref a ∧ DPut H3 a y v H4 ∧ D.nx σ H4
section
variable {X : Cx} {o i e value : Expr} {pos pos' tpos : Pos} {td ty tv : TE}
theorem pe_dget (hu : X.A.units + 1 < cLine) (ho : PE X o td) (hi : PE X i ty) (hs : NoSl i) : PE X (.Subscript o i pos) (tDGet td ty) := by
  intro pins s σ H Q I h
  refine subD_of PySem.F.slot_dict_getitem.lookup hs (thn (ho pins s σ H _ I h) fun u s1 ⟨x, H1, I1, rx, q1⟩ => thn (hi pins s1 σ H1 _ I1 q1) fun iv s2 ⟨y, H2, I2, ry, a, v, ex, g, q2⟩ => ?_)
  subst ex
  obtain rfl : u = Value.ref a := rx
  exact ⟨dict_typeIs I2 g, d_getItem hu I2 g ry fun w' s3 I3 rw' => ⟨v, H2, I3, rw', q2⟩⟩
theorem pc_din (hu : X.A.units + 1 < cLine) (hi : PE X i ty) (ho : PE X o td) : PC X .In i o (tDIn ty td) := by
  intro pins s σ H Q I h
  refine thn (hi pins s σ H _ I h) fun iv s1 ⟨y, H1, I1, ry, q1⟩ => thn (ho pins s1 σ H1 _ I1 q1) fun u s2 ⟨x, H2, I2, rx, a, ov, ex, g, q2⟩ => ?_
  subst ex
  obtain rfl : u = Value.ref a := rx
  exact d_in hu I2 g ry fun s3 I3 => ⟨.bl ov.isSome, H2, I3, rfl, q2⟩
theorem pc_dnotin (hu : X.A.units + 1 < cLine) (hi : PE X i ty) (ho : PE X o td) : PC X .NotIn i o (tDNotIn ty td) := by
  intro pins s σ H Q I h
  refine thn (hi pins s σ H _ I h) fun iv s1 ⟨y, H1, I1, ry, q1⟩ => thn (ho pins s1 σ H1 _ I1 q1) fun u s2 ⟨x, H2, I2, rx, a, ov, ex, g, q2⟩ => ?_
  subst ex
  obtain rfl : u = Value.ref a := rx
  exact d_notIn hu I2 g ry fun s3 I3 => ⟨.bl (!ov.isSome), H2, I3, rfl, q2⟩
theorem ps_dput (hu : X.A.units + 1 < cLine) (ho : PE X o td) (hi : PE X i ty) (hv : PE X value tv) (hs : swapsWith value (some (.Subscript o i pos')) pos.line X.env = pure false) :
    PS X (.Assign [.Subscript o i pos'] value pos) (sDPut td ty tv) := by
  intro pins s σ H D I h
  refine wpAny_Assign_Subscript (thn (hv pins s σ H _ I h) fun r s1 ⟨v, H1, I1, rv, q1⟩ => thn (ho pins s1 σ H1 _ I1 q1) fun u s2 ⟨x, H2, I2, rx, q2⟩ => thn (hi pins s2 σ H2 _ I2 q2) fun iv s3 ⟨y, H3, I3, ry, a, H4, ex, g, q3⟩ => ?_) hs
  subst ex
  obtain rfl : u = Value.ref a := rx
  exact d_setItem hu I3 g ry rv fun s4 I4 => ⟨σ, H4, I4, q3⟩
end
theorem dk_empty {P : Program} {w : World} {H : Hp} (h : Heap) (hb : sysModules < h.objs.size) : ObjOk P w H (h.push { cls := .type "dict", data := .dict #[] }) h.objs.size (.dK []) :=
  ⟨Nat.zero_le _, beq_eq_false_iff_ne.mpr (Ne.symm (Nat.ne_of_lt hb)), [], .nil, Heap.DictOf.new h⟩
def tDNewK : TE := fun _ H Q => ∀ p, H p = none → Q (.ref p) (upd H p (.dK []))
section
variable {X : Cx} {pos : Pos}
theorem pe_dnewK : PE X (.Dict [] [] pos) tDNewK := fun pins s σ H Q I h =>
  wpAny_Dict_empty ⟨.ref s.heap.objs.size, _, I.laid (a := s.heap.objs.size) (o := .dK []) (t' := s.toks) (fun _ _ q => Heap.get?_push_of_some _ q) (Nat.le_refl _) (dk_empty s.heap I.big), rfl, h _ (I.hok.fresh (Nat.le_refl _))⟩
end
def tPairs : List (TE × TE) → St → Hp → (List (V × V) → Hp → Prop) → Prop
  | [], _, H, Q => Q [] H
  | (tk, tv) :: r, σ, H, Q => tk σ H fun x H1 => tv σ H1 fun y H2 => tPairs r σ H2 fun ps H3 => Q ((x, y) :: ps) H3
abbrev VV : List (V × V) → List (Value × Value) → Prop := Paired fun p q => RelV p.1 q.1 ∧ RelV p.2 q.2
def PPs (X : Cx) (pos : Pos) (keys : List (Option Expr)) (values : List Expr) (trs : List (TE × TE)) : Prop :=
  ∀ (pins : List (Addr × Obj)) (s : Shared) (σ : St) (H : Hp) (Q : List (V × V) → Hp → Prop), Inv X pins σ H s → tPairs trs σ H Q →
    wpAny (model X.prog X.w) X.A (evalPairs (pairTrees keys values X.env pos)) (fun vs s' => ∃ ps H', Inv X pins σ H' s' ∧ VV ps vs ∧ Q ps H') X.xe s
theorem pps_nil {X : Cx} {pos : Pos} : PPs X pos [] [] [] := fun pins s σ H Q I h => pairTrees_nil_walk ⟨[], H, I, .nil, h⟩
theorem pps_cons {X : Cx} {pos : Pos} {k v : Expr} {ks : List (Option Expr)} {vs : List Expr} {tk tv : TE} {trs : List (TE × TE)} (hk : PE X k tk) (hv : PE X v tv) (hr : PPs X pos ks vs trs) :
    PPs X pos (some k :: ks) (v :: vs) ((tk, tv) :: trs) := fun pins s σ H Q I h =>
  pairTrees_cons_walk (thn (hk pins s σ H _ I h) fun u s1 ⟨x, H1, I1, rx, q1⟩ => thn (hv pins s1 σ H1 _ I1 q1) fun w2 s2 ⟨y, H2, I2, ry, q2⟩ =>
    thn (hr pins s2 σ H2 _ I2 q2) fun ws s3 ⟨ps, H3, I3, rel, q3⟩ => ⟨(x, y) :: ps, H3, I3, .cons ⟨rx, ry⟩ rel, q3⟩)
def mergeK (kvs more : List (Key × V)) : List (Key × V) := more.foldl (fun acc kv => putK acc kv.1 kv.2) kvs
theorem KV.merge : ∀ {more : List (Key × V)} {rs : List (Key × Value)} {kvs : List (Key × V)} {vs : List (Key × Value)}, KV more rs → KV kvs vs → KV (mergeK kvs more) (merged vs rs) := by
  intro more rs kvs vs r
  unfold KV at r
  induction r generalizing kvs vs with
  | nil => intro q; exact q
  | @cons p q ps qs h t ih =>
    intro r0
    have e : KV (putK kvs p.1 p.2) (stored vs q.1 q.2) := by
      have := r0.put p.1 h.2
      rw [← h.1]; exact this
    exact ih e
theorem length_mergeK : ∀ (more kvs : List (Key × V)), (mergeK kvs more).length ≤ kvs.length + more.length
  | [], kvs => by show kvs.length ≤ kvs.length + 0; omega
  | p :: r, kvs => by
    have h1 := length_mergeK r (putK kvs p.1 p.2)
    have h2 := length_putK kvs p.1 p.2
    show (mergeK (putK kvs p.1 p.2) r).length ≤ _
    rw [List.length_cons]; omega
theorem carries_of {P : Program} {w : World} : ∀ {kvs : List (Key × V)} {ws : List (Value × Value)}, VV (kvs.map fun kv => (kV kv.1, kv.2)) ws → ∃ rs, Carries (mixKind P w) ws rs ∧ KV kvs rs
  | [], _, r => by rw [List.map_nil] at r; cases r; exact ⟨[], True.intro, .nil⟩
  | p :: kvs, _, r => by
    rw [List.map_cons] at r
    cases r with
    | @cons a b as bs h t =>
      obtain ⟨rs, c, q⟩ := carries_of (P := P) (w := w) t
      obtain ⟨b1, b2⟩ := b
      exact ⟨(p.1, b2) :: rs, ⟨kV_is h.1, rfl, c⟩, .cons ⟨rfl, h.2⟩ q⟩
def tDisp (trs : List (TE × TE)) : TE := fun σ H Q => ∀ p, H p = none → tPairs trs σ (upd H p (.dK [])) fun ps H2 => H2 p = some (.dK []) ∧ ∃ kvs : List (Key × V), ps = kvs.map (fun kv => (kV kv.1, kv.2)) ∧ kvs.length ≤ 15 ∧ Q (.ref p) (upd H2 p (.dK (mergeK [] kvs)))
theorem pe_disp {X : Cx} {pos : Pos} {keys : List (Option Expr)} {values : List Expr} {trs : List (TE × TE)} (h : PPs X pos keys values trs) (hall : keys.all (·.isSome) = true) (hl : keys.length = values.length) (h0 : keys ≠ [])
    (h15 : keys.length ≤ 15) : PE X (.Dict keys values pos) (tDisp trs) := by
  intro pins s σ H Q I q
  have hn := I.hok.fresh (Nat.le_refl s.heap.objs.size)
  have I1 := I.laid (a := s.heap.objs.size) (o := .dK []) (h' := s.heap.push { cls := .type "dict", data := .dict #[] }) (t' := s.toks) (fun _ _ q => Heap.get?_push_of_some _ q) (Nat.le_refl _) (dk_empty s.heap I.big)
  refine wpAny_Dict_walk (knd := mixKind X.prog X.w) hall hl h0 h15 (thn (h pins _ σ _ _ I1 (q _ hn)) fun ws s2 ⟨ps, H2, I2, rel, e, kvs, ep, lk, q2⟩ => ?_)
  subst ep
  obtain ⟨rs, c, rk⟩ := carries_of (P := X.prog) (w := X.w) rel
  obtain ⟨z, hd, vs0, r0, dd⟩ := dk_of I2.hok e
  cases r0
  refine ⟨rs, c, dd, fun h' dd' hs => ⟨.ref s.heap.objs.size, _, ?_, rfl, q2⟩⟩
  have hz : (mergeK [] kvs).length ≤ sizeLine := by
    have h1 := length_mergeK kvs []
    rw [List.length_nil] at h1
    rw [sizeLine_eq]; omega
  have he : ∃ q, h'.get? s.heap.objs.size = some q := let ⟨q, _, _, hq, _⟩ := dd'; ⟨q, hq⟩
  exact d_write I2 (by rw [e]; exact True.intro) hs he (dk_new hz hd (rk.merge .nil) dd')
structure M1 (X : Cx) (o : Expr) (m : Str) (apos : Pos) (e : Expr) (cpos : Pos) : Prop where
  base : attributeBase o m X.env (eval o X.env) = eval o X.env
  few : ((backTo cpos (starEach [e] X.env)).all (fun x => !x.1) && (backToKw cpos (keywordEach [] X.env)).all (fun x => x.1.isSome)
    && decide (([e] : List Expr).length + ([] : List Keyword).length + (if ([] : List Keyword).isEmpty then 0 else 1) < 30)) = true
  line : (apos.endLine == cpos.line) = true
  trees : backTo cpos (starEach [e] X.env) = [(false, eval e X.env)]
def IsD (H : Hp) (a : Addr) : Prop := (∃ kvs, Rd H a (.dK kvs)) ∨ ∃ kvs, Rd H a (.dT kvs)
theorem isD_at {X : Cx} {pins : List (Addr × Obj)} {σ : St} {H : Hp} {s : Shared} {a : Addr} (I : Inv X pins σ H s) (d : IsD H a) :
    s.TypeIs (.ref a) "dict" ∧ (∀ b, Value.ref a = .ref b → ∃ ob, s.heap.get? b = some ob ∧ ob.dict = none) ∧ (a == sysModules) = false := by
  rcases d with ⟨kvs, e⟩ | ⟨kvs, e⟩
  · obtain ⟨_, hd, vs, _, dd⟩ := dk_rd I.hok e
    refine ⟨dd.typeIs, fun b q => ?_, hd⟩
    cases q
    obtain ⟨ob, _, _, h1, h2, _⟩ := dd
    exact ⟨ob, h1, h2.2.1⟩
  · obtain ⟨_, hd, xs, _, dd⟩ := dt_rd I.hok e
    refine ⟨dd.typeIs, fun b q => ?_, hd⟩
    cases q
    obtain ⟨ob, _, _, h1, h2, _⟩ := dd
    exact ⟨ob, h1, h2.2.1⟩
section
variable {X : Cx} {pins : List (Addr × Obj)} {σ : St} {H : Hp} {s : Shared} {a : Addr} {y d : V} {u r : Value} {o : Option V} {A : Around} {E : Value → Shared → Prop}
theorem d_get1 {Q : Value → Shared → Prop} (hu : A.units + 1 < cLine) (I : Inv X pins σ H s) (g : DGet H a y o) (ry : RelV y u) (h : ∀ w' s', Inv X pins σ H s' → RelV (o.getD .non) w' → Q w' s') :
    wpAny (model X.prog X.w) A (call (.builtin "dict.get") [.ref a, u]) Q E s := by
  rcases g with ⟨kvs, k, e, ey, l⟩ | ⟨kvs, k, b, e, ey, eb, l⟩
  · subst ey
    obtain ⟨z, hd, vs, rel, dd⟩ := dk_rd I.hok e
    refine call_meetsIn PySem.F.slot_dict_get dd.typeIs PySem.F.entry_dict_get (PySem.F.args_dict_get_2 _ _) (meets_dict_get (mixKind X.prog X.w) a (kV_is ry) hd) ⟨_, dd.mapOf, h _ _ (I.tok _) ?_⟩
    rw [l]
    exact (rel.val k).getD rfl
  · subst ey
    cases (show u = Value.ref b from ry)
    obtain ⟨z, hd, xs, rel, dd⟩ := dt_rd I.hok e
    refine call_meetsIn PySem.F.slot_dict_get dd.typeIs PySem.F.entry_dict_get (PySem.F.args_dict_get_2 _ _) (meetsH_dict_get (tupleKind (mixKind X.prog X.w)) a b hd) ⟨tupleKind_room_in1 hu, k, xs, key_of I.hok eb, dd, h _ _ (I.tok _) ?_⟩
    rw [l]
    exact (rel.val k).getD rfl
end
def tDGet1 (td ty : TE) : TE := fun σ H Q => td σ H fun x H1 => ∃ a, x = .ref a ∧ IsD H1 a ∧ ty σ H1 fun y H2 => ∃ o, DGet H2 a y o ∧ Q (o.getD .non) H2
def tDPop1 (td ty : TE) : TE := fun σ H Q => td σ H fun x H1 => ∃ a, x = .ref a ∧ IsD H1 a ∧ ty σ H1 fun y H2 => ∃ kvs k v, H2 a = some (.dK kvs) ∧ y = kV k ∧ valV kvs k = some v ∧ Q v (upd H2 a (.dK (dropK kvs k)))
section
variable {X : Cx} {o e f : Expr} {apos cpos : Pos} {td ty tx : TE}
theorem pe_dget1 (hu : X.A.units + 1 < cLine) (ho : PE X o td) (he : PE X e ty) (m : M1 X o "get" apos e cpos) : PE X (.Call (.Attribute o "get" apos) [e] [] cpos) (tDGet1 td ty) := by
  intro pins s σ H Q I h
  refine wpAny_Call_method m.base m.few m.line PySem.F.plainAttrs_dict PySem.F.slot_dict_get PySem.F.type_dict_get (thn (ho pins s σ H _ I h) fun u s1 ⟨x, H1, I1, rx, a, ex, d, q1⟩ => ?_)
  subst ex
  obtain rfl : u = Value.ref a := rx
  obtain ⟨t1, t2, _⟩ := isD_at I1 d
  refine ⟨t1, t2, ?_⟩
  rw [m.trees]
  refine Calls.callWith_builtin rfl (Calls.evalArgs_plain (Calls.spliced_cons (thn (he pins s1 σ H1 _ I1 q1) fun iv s2 ⟨y, H2, I2, ry, ov, g, q2⟩ => Calls.spliced_nil ?_)))
  exact d_get1 hu I2 g ry fun w' s3 I3 rw' => ⟨_, H2, I3, rw', q2⟩
theorem pe_dpop1 (ho : PE X o td) (he : PE X e ty) (m : M1 X o "pop" apos e cpos) : PE X (.Call (.Attribute o "pop" apos) [e] [] cpos) (tDPop1 td ty) := by
  intro pins s σ H Q I h
  refine wpAny_Call_method m.base m.few m.line PySem.F.plainAttrs_dict PySem.F.slot_dict_pop PySem.F.type_dict_pop (thn (ho pins s σ H _ I h) fun u s1 ⟨x, H1, I1, rx, a, ex, d, q1⟩ => ?_)
  subst ex
  obtain rfl : u = Value.ref a := rx
  obtain ⟨t1, t2, _⟩ := isD_at I1 d
  refine ⟨t1, t2, ?_⟩
  rw [m.trees]
  refine Calls.callWith_builtin rfl (Calls.evalArgs_plain (Calls.spliced_cons (thn (he pins s1 σ H1 _ I1 q1) fun iv s2 ⟨y, H2, I2, ry, kvs, k, v, ea, ey, l, q2⟩ => Calls.spliced_nil ?_)))
  subst ey
  exact d_pop I2 ea ry l (.inl rfl) fun w' s3 I3 rw' => ⟨v, _, I3, rw', q2⟩
end
section
variable {X : Cx} {pins : List (Addr × Obj)} {σ : St} {H : Hp} {s : Shared} {a : Addr} {kvs : List (Key × V)} {A : Around} {E : Value → Shared → Prop}
end
section
variable {X : Cx} {pins : List (Addr × Obj)} {σ : St} {H : Hp} {s : Shared} {a : Addr} {y : V} {u : Value} {A : Around} {E : Value → Shared → Prop}
end
end L2
namespace L2
open PySem PySem.Spec PyProof.Rows
section
variable {X : Cx}
end
section
variable {κ : Type} [DecidableEq κ]
theorem dropK_pos {p : κ × V} {r : List (κ × V)} {k : κ} (e : p.1 = k) : dropK (p :: r) k = dropK r k := by
  unfold dropK
  rw [List.filter_cons, if_neg (by simp [e])]
theorem dropK_neg {p : κ × V} {r : List (κ × V)} {k : κ} (e : ¬ p.1 = k) : dropK (p :: r) k = p :: dropK r k := by
  unfold dropK
  rw [List.filter_cons, if_pos (by simp [e])]
end
end L2
set_option maxHeartbeats 8000000
namespace L2
open PySem
def closC (env : Env) : List (Str × NameKind) → List (Str × Addr) → List (Str × Addr)
  | [], cs => cs
  | (n, k) :: r, cs => if (k == NameKind.free) = true then closC env r ((n, (env.cells.lookup n).getD 0) :: cs) else closC env r cs
theorem closC_forIn {env : Env} : ∀ (l : List (Str × NameKind)) (cs : List (Str × Addr)), (∀ x ∈ l, x.2 = NameKind.free → ∃ c, env.cells.lookup x.1 = some c) →
    forIn (m := Sem) l cs (fun x cs => match x with
      | (name, kind) => if (kind == NameKind.free) = true then do let a ← cellOf env name; pure (ForInStep.yield ((name, a) :: cs)) else pure (ForInStep.yield cs)) = pure (closC env l cs)
  | [], _, _ => rfl
  | (n, k) :: r, cs, h => by
    have hr : ∀ x ∈ r, x.2 = NameKind.free → ∃ c, env.cells.lookup x.1 = some c := fun x hx => h x (List.mem_cons_of_mem _ hx)
    rw [List.forIn_cons]
    dsimp only
    by_cases e : (k == NameKind.free) = true
    · obtain ⟨c, hc⟩ := h (n, k) List.mem_cons_self (by simpa using e)
      have hc' : env.cells.lookup n = some c := hc
      have ec : cellOf env n = pure c := by unfold cellOf; rw [hc']
      rw [if_pos e, ec, pure_bind, pure_bind]
      refine (closC_forIn r ((n, c) :: cs) hr).trans ?_
      conv => rhs; unfold closC
      rw [if_pos e, hc']
      rfl
    · rw [if_neg e, pure_bind]
      refine (closC_forIn r cs hr).trans ?_
      conv => rhs; unfold closC
      rw [if_neg e]
theorem closC_eq {scope : Scope} {env : Env} (h : ∀ x ∈ scope.names, x.2 = NameKind.free → ∃ c, env.cells.lookup x.1 = some c) : closureFor scope env = pure (closC env scope.names []) := by
  have e := closC_forIn scope.names [] h
  simp only [closureFor]
  rw [e]
  rfl
theorem closC_lookup {env : Env} : ∀ (l : List (Str × NameKind)) (cs : List (Str × Addr)), (∀ x ∈ l, x.2 = NameKind.free → ∃ c, env.cells.lookup x.1 = some c) → (∀ x c, cs.lookup x = some c → env.cells.lookup x = some c) →
    ∀ x c, (closC env l cs).lookup x = some c → env.cells.lookup x = some c
  | [], _, _, hc, x, c, e => hc x c e
  | (n, k) :: r, cs, h, hc, x, c, e => by
    have hr : ∀ x ∈ r, x.2 = NameKind.free → ∃ c, env.cells.lookup x.1 = some c := fun x hx => h x (List.mem_cons_of_mem _ hx)
    unfold closC at e
    by_cases q : (k == NameKind.free) = true
    · rw [if_pos q] at e
      obtain ⟨a, ha⟩ := h (n, k) List.mem_cons_self (by simpa using q)
      have ha' : env.cells.lookup n = some a := ha
      refine closC_lookup r _ hr (fun y b hy => ?_) x c e
      rw [ha'] at hy
      rw [List.lookup_cons] at hy
      cases z : y == n with
      | true =>
        rw [z] at hy
        have z' : y = n := by simpa using z
        subst z'
        cases hy
        exact ha'
      | false =>
        rw [z] at hy
        exact hc y b hy
    · rw [if_neg q] at e
      exact closC_lookup r _ hr hc x c e
theorem closC_mono {env : Env} : ∀ (l : List (Str × NameKind)) (cs : List (Str × Addr)) (x : Str), (cs.lookup x).isSome = true → ((closC env l cs).lookup x).isSome = true
  | [], _, _, h => h
  | (n, k) :: r, cs, x, h => by
    unfold closC
    by_cases q : (k == NameKind.free) = true
    · rw [if_pos q]
      refine closC_mono r _ x ?_
      rw [List.lookup_cons]
      cases x == n with
      | true => rfl
      | false => exact h
    · rw [if_neg q]
      exact closC_mono r cs x h
theorem closC_has {env : Env} : ∀ (l : List (Str × NameKind)) (cs : List (Str × Addr)) (x : Str), (x, NameKind.free) ∈ l → ((closC env l cs).lookup x).isSome = true
  | [], _, _, h => by cases h
  | (n, k) :: r, cs, x, h => by
    unfold closC
    rcases List.mem_cons.mp h with e | e
    · obtain ⟨rfl, rfl⟩ := Prod.mk.inj e
      rw [if_pos (by rfl)]
      refine closC_mono r _ _ ?_
      rw [List.lookup_cons]
      simp
    · split
      · exact closC_has r _ x e
      · exact closC_has r _ x e
section
variable {prog : Program} {w : World} {A : Around} {E : Value → Shared → Prop} {R : Result → Shared → Prop} {s : Shared}
theorem compLoop_any {elt target iter : Expr} {ifs : List Expr} {scope : Scope} {pos : Pos} {it acc : Value} {env : Env} (I : Nat → Shared → Prop)
    (turn : ∀ n s, I n s → wpAny (model prog w) A (pyNext it) (fun r s₁ => match r with
      | none => R (.ok .next) s₁
      | some v => wpAny (model prog w) A (letOwnedTupleGo target it v) (fun _ s₁' => wpAny (model prog w) A (assign target env v) (fun _ s₂ =>
          wpAny (model prog w) A (forIn ifs true fun c r => if r = true then do let ok ← isTrue c env (eval c env); pure (ForInStep.yield ok) else pure (ForInStep.yield r)) (fun ok s₃ =>
            if ok = true then wpAny (model prog w) A (eval elt env) (fun x s₄ =>
              wpAny (model prog w) A (call (.builtin "list.append") [acc, x]) (fun _ s₅ => ∃ m, m < n ∧ I m s₅) (fun _ _ => False) s₄) (fun _ _ => False) s₃
            else ∃ m, m < n ∧ I m s₃) (fun _ _ => False) s₂) (fun _ _ => False) s₁') (fun _ _ => False) s₁) (fun _ _ => False) s)
    (n : Nat) (h : I n s) :
    codeAny (model prog w) A (.compLoop (.ListComp elt [⟨target, iter, ifs, 0⟩] scope pos) 0 it acc env) R s := by
  refine codeAny_loop rfl I (fun n s hI => ?_) n h
  show wpAny _ A ((compTurn (.ListComp elt [⟨target, iter, ifs, 0⟩] scope pos) 0 it acc env).onRaise (fun x => do noteFrame x env; theTreesLotGoes x)) _ _ s
  refine wpAny_noted ?_
  rw [compTurn_list]
  refine wpAny_bind (wpAny_standAt (wpAny_bind (wpAny_mono (turn n s hI) (fun r s₁ h₁ => ?_) fun _ _ h' => h'.elim)))
  cases r with
  | none => exact wpAny_pure h₁
  | some v =>
    refine wpAny_bind (wpAny_mono h₁ (fun _ s₁' h₁' => ?_) fun _ _ h' => h'.elim)
    refine wpAny_bind (wpAny_mono h₁' (fun _ s₂ h₂ => wpAny_bind (wpAny_mono h₂ (fun ok s₃ h₃ => ?_) fun _ _ h' => h'.elim)) fun _ _ h' => h'.elim)
    cases ok with
    | false => exact wpAny_pure ⟨rfl, h₃⟩
    | true =>
      exact wpAny_bind (wpAny_bind (wpAny_mono h₃ (fun x s₄ h₄ => wpAny_bind (wpAny_mono h₄ (fun _ s₅ h₅ => wpAny_pure (wpAny_pure ⟨rfl, h₅⟩)) fun _ _ h' => h'.elim)) fun _ _ h' => h'.elim))
end
end L2
namespace L2
open PySem PySem.Spec PyProof.Rows
def cxC (X : Cx) (pins : List (Addr × Obj)) (N : List Str) (scope : Scope) (cl : List (Str × Addr)) (C : Addr) (s : Shared) (H : Hp) (fp : List Addr) : Cx where
  prog := X.prog
  w := X.w
  K := X.K
  mg := X.mg
  base := X.base
  A := X.A
  N := N
  s₀ := s
  H₀ := H
  env := compEnvC scope cl C X.env
  outer := X.stack
  stack := X.stack
  ex := fp
  fn := fun _ => false
  calm := X.calm
  pn := X.pn ++ pins
  xe := fun _ _ => False
def tieOk (XN N : List Str) (sc : List (Str × NameKind)) : Nat → List Nat → Bool
  | _, [] => true
  | j, i :: r => (match XN[i]?, N[j]? with
    | some x, some y => decide (x = y) && decide (sc.lookup x = some .free)
    | _, _ => false) && tieOk XN N sc (j + 1) r
theorem tie_get {XN N : List Str} {sc : List (Str × NameKind)} : ∀ {j0 : Nat} {fr : List Nat}, tieOk XN N sc j0 fr = true → ∀ {j i : Nat}, fr[j]? = some i → ∀ {x : Str}, N[j0 + j]? = some x → XN[i]? = some x ∧ sc.lookup x = some .free
  | _, [], _, j, i, e, _, _ => by simp at e
  | j0, i0 :: r, h, 0, i, e, x, hx => by
    have e' : i0 = i := by simpa using e
    subst e'
    unfold tieOk at h
    have hx' : N[j0]? = some x := by simpa using hx
    rw [hx'] at h
    cases q : XN[i0]? with
    | none => rw [q] at h; simp at h
    | some y =>
      rw [q] at h
      simp only [Bool.and_eq_true, decide_eq_true_eq] at h
      obtain ⟨⟨h1, h2⟩, _⟩ := h
      subst h1
      exact ⟨rfl, h2⟩
  | j0, i0 :: r, h, j + 1, i, e, x, hx => by
    unfold tieOk at h
    rw [Bool.and_eq_true] at h
    exact tie_get (j0 := j0 + 1) h.2 (j := j) (by simpa using e) (by rw [show j0 + 1 + j = j0 + (j + 1) by omega]; exact hx)
structure CompScope (X : Cx) (N : List Str) (nt : Nat) (fr : List Nat) (scope : Scope) : Prop where
  kind : scope.kind = .function
  cell : ∀ y ∈ scope.names, y.2 ≠ .cell
  names : ∀ y ∈ scope.names, y.2 = .local → scope.names.lookup y.1 = some .local
  free : ∀ y ∈ scope.names, y.2 = .free → X.env.kindOf y.1 = some .cell
  len : N.length = nt + fr.length
  tie : tieOk X.N N scope.names nt fr = true
def startC (nt : Nat) (fr : List Nat) (σ : St) : St := List.replicate nt none ++ fr.map fun i => (σ[i]?).join
theorem relabel_mem {scope : Scope} {env : Env} {x : Str} {k : NameKind} (hc : ∀ y ∈ scope.names, y.2 ≠ .cell) (h : (relabel scope env).names.lookup x = some k) (hk : k = .cell ∨ k = .free) : (x, NameKind.free) ∈ scope.names := by
  have hm := PySem.mem_of_lookup h
  unfold relabel at hm
  obtain ⟨⟨n, q⟩, hy, e⟩ := List.mem_map.mp hm
  dsimp only at e
  by_cases z : (q == NameKind.free && env.scope.kind == .function && env.kindOf n == some .cell) = true
  · rw [if_pos z] at e
    have hq : q = NameKind.free := by
      simp only [Bool.and_eq_true] at z
      simpa using z.1.1
    cases e
    subst hq
    exact hy
  · rw [if_neg z] at e
    cases e
    rcases hk with hk | hk
    · exact absurd hk (hc _ hy)
    · subst hk
      exact hy
section
variable {X : Cx} {pins : List (Addr × Obj)} {σ : St} {H : Hp} {s : Shared}
theorem lookup_relabel_free {scope : Scope} {env : Env} (hk : env.scope.kind = .function) : ∀ {names : List (Str × NameKind)} {x : Str}, names.lookup x = some .free → env.kindOf x = some .cell →
    (names.map fun (n, k) => if (k == NameKind.free && env.scope.kind == .function && env.kindOf n == some .cell) then (n, NameKind.cell) else (n, k)).lookup x = some .cell
  | [], _, h, _ => by simp at h
  | (n, k) :: r, x, h, hx => by
    have ih := @lookup_relabel_free scope env hk r x
    show List.lookup x ((if (k == NameKind.free && env.scope.kind == .function && env.kindOf n == some .cell) = true then (n, NameKind.cell) else (n, k)) :: _) = _
    cases hq : x == n with
    | true =>
      have e : x = n := by simpa using hq
      subst e
      simp only [List.lookup_cons, hq] at h
      cases h
      rw [if_pos (by rw [hk, hx]; rfl)]
      simp [List.lookup_cons]
    | false =>
      simp only [List.lookup_cons, hq] at h
      by_cases hc : (k == NameKind.free && env.scope.kind == .function && env.kindOf n == some .cell) = true
      · rw [if_pos hc]; simp only [List.lookup_cons, hq]; exact ih h hx
      · rw [if_neg hc]; simp only [List.lookup_cons, hq]; exact ih h hx
theorem Inv.block {N : List Str} {nt : Nat} {fr : List Nat} {scope : Scope} {fp : List Addr} {h1 : Heap} {C : Addr} {tk : Nat} {m : Str → Option Value} (I : Inv X pins σ H s) (S : CompScope X N nt fr scope) (hC : C = s.heap.objs.size) (hn : h1.Ns C m)
    (hk : ∀ b o, s.heap.get? b = some o → h1.get? b = some o) (hf : ∀ b ∈ fp, FpOk X pins H b) (ho : ∀ b ∈ fp, b < s.heap.objs.size) :
    Inv (cxC X pins N scope (closC X.env scope.names []) C s H fp) [] (startC nt fr σ) H { s with heap := h1, toks := tk } := by
  have hfree : ∀ x ∈ scope.names, x.2 = NameKind.free → ∃ c, X.env.cells.lookup x.1 = some c := fun x hx e => I.ok.has x.1 (.inl (S.free x hx e))
  have cls : ∀ x c, (closC X.env scope.names []).lookup x = some c → X.env.cells.lookup x = some c := closC_lookup scope.names [] hfree (fun x c e => by simp at e)
  have stk : ∀ b ∈ fp, b ∉ frs X.stack := fun b hb z => by
    obtain ⟨f0, f1, f2, _⟩ := hf b hb
    rcases List.mem_cons.mp (I.stkSub b z) with e | e
    · exact f1 e
    · exact f2 e
  refine ⟨⟨I.ok.mod, S.kind, I.ok.glob, I.ok.blt, by rw [hC]; exact Nat.le_refl _, fun x y c e1 e2 => I.ok.inj x y c (cls x c e1) (cls y c e2), fun x e => ?_, fun _ _ e => (by cases e), I.ok.hd, I.ok.frames, .inl rfl, fun b hb => ⟨?_, fun x c e => (hf b hb).2.2.2.2.1 x c (cls x c e)⟩,
      fun b o e => I.bs b o e, Nat.le_trans I.ok.bsz I.sz, fun b o e hb => ?_, stk, I.stack, I.stkFree⟩,
    rfl, I.bare, Un.kept hk, ⟨m, hn, fun j x v e1 e2 e3 => ?_⟩, fun x c e => ?_, ?_, fun x c e => I.freeC x c (cls x c e), fun p hp => ?_, I.hok.kept hk, ?_⟩
  · have hm : (x, NameKind.free) ∈ scope.names := by
      rcases e with e | e
      · exact relabel_mem S.cell e (.inl rfl)
      · exact relabel_mem S.cell e (.inr rfl)
    exact Option.isSome_iff_exists.mp (closC_has scope.names [] x hm)
  · intro z
    have := ho b hb
    rw [z] at this
    have e : (cxC X pins N scope (closC X.env scope.names []) C s H fp).env.locals = s.heap.objs.size := hC
    rw [e] at this
    exact Nat.lt_irrefl _ this
  · have hb' : b ∈ fp := hb
    rcases (hf b hb').2.2.2.1 with z | z
    · exact I.ok.noex b o e z
    · exact absurd (Nat.lt_of_lt_of_le (Heap.lt_size (I.ok.bs b o e).1) z) (Nat.lt_irrefl _)
  · have e1 : N[j]? = some x := e1
    by_cases hj : j < nt
    · unfold startC at e2
      rw [List.getElem?_append_left (by simpa using hj), List.getElem?_replicate, if_pos hj] at e2
      cases e2
    · obtain ⟨d, rfl⟩ : ∃ d, j = nt + d := ⟨j - nt, by omega⟩
      unfold startC at e2
      rw [List.getElem?_append_right (by simp), List.length_replicate, Nat.add_sub_cancel_left, List.getElem?_map] at e2
      cases q : fr[d]? with
      | none => rw [q] at e2; cases e2
      | some i =>
        rw [q] at e2
        have e2' : (σ[i]?).join = some v := Option.some.inj e2
        have e2'' : σ[i]? = some (some v) := by
          cases z : σ[i]? with
          | none => rw [z] at e2'; cases e2'
          | some o => rw [z] at e2'; rw [show o = some v from e2']
        obtain ⟨hx, hl⟩ := tie_get S.tie q e1
        have hkx : X.env.kindOf x = some .cell := S.free (x, .free) (PySem.mem_of_lookup hl) rfl
        obtain ⟨m', hn', hl'⟩ := I.loc
        obtain ⟨u, r, lk⟩ := hl' i x v hx e2'' (.inr (.inl hkx))
        refine ⟨u, r, .inr ⟨.inl ?_, ?_⟩⟩
        · exact lookup_relabel_free (scope := scope) I.ok.kind hl hkx
        · rcases lk with ⟨hk', _⟩ | ⟨_, c, hc, hcell⟩
          · rw [hkx] at hk'; cases hk'
          · obtain ⟨c', hc'⟩ := Option.isSome_iff_exists.mp (closC_has (env := X.env) scope.names [] x (PySem.mem_of_lookup hl))
            have := cls x c' hc'
            rw [hc] at this
            cases this
            obtain ⟨o, ho', hd⟩ := hcell
            exact ⟨c, hc', o, hk c o ho', hd⟩
  · obtain ⟨v, o, e', d⟩ := I.cell x c (cls x c e)
    exact ⟨v, o, hk c o e', d⟩
  · show H C = none
    rw [hC]
    exact I.hok.fresh (Nat.le_refl _)
  · have hp' : p ∈ X.pn ++ pins := by
      have z : p ∈ (X.pn ++ pins) ++ [] := hp
      rwa [List.append_nil] at z
    obtain ⟨e, n, ne, nf, d⟩ := I.pin p hp'
    refine ⟨hk _ _ e, n, ?_, fun z => ?_, d⟩
    · show p.1 ≠ C
      rw [hC]
      exact Nat.ne_of_lt (Heap.lt_size e)
    · rcases List.mem_cons.mp (I.stkSub p.1 z) with q | q
      · exact ne q
      · exact nf q
  · show (startC nt fr σ).length = N.length
    unfold startC
    rw [List.length_append, List.length_replicate, List.length_map, S.len]
theorem Inv.unblock {N : List Str} {scope : Scope} {cl : List (Str × Addr)} {fp : List Addr} {C : Addr} {s3 s' : Shared} {pins' : List (Addr × Obj)} {σ' : St} {H' : Hp} (I : Inv X pins σ H s3) (hf : ∀ b ∈ fp, FpOk X pins H b)
    (J : Inv (cxC X pins N scope cl C s3 H fp) pins' σ' H' s') : Inv X pins σ H' s' :=
  I.call' (ch := fp) J.os J.base J.hok J.bare fun b hb => ⟨(hf b hb).2.2.2.1, (hf b hb).2.1, (hf b hb).2.2.2.2.1, (hf b hb).2.2.2.2.2⟩
def PIfs (X : Cx) (ifs : List Expr) (t : TT) : Prop :=
  ∀ (pins : List (Addr × Obj)) (s : Shared) (σ : St) (H : Hp) (Q : Bool → Hp → Prop), Inv X pins σ H s → t σ H Q →
    wpAny (model X.prog X.w) X.A (forIn ifs true fun c r => if r = true then do let ok ← isTrue c X.env (eval c X.env); pure (ForInStep.yield ok) else pure (ForInStep.yield r)) (TP X pins σ Q) X.xe s
def tYes : TT := fun _ H Q => Q true H
theorem pif_nil {X : Cx} : PIfs X [] tYes := fun pins s σ H Q I h => wpAny_tests_nil ⟨H, I, h⟩
theorem pif_one {X : Cx} {c : Expr} {t : TT} (h : PT X c t) : PIfs X [c] t := fun pins s σ H Q I q => wpAny_tests_one (h pins s σ H Q I q)
def tComp (nt : Nat) (fr : List Nat) (wi : TI) (g : TG) (tt : TT) (te : TE) : TE := fun σ H Q => wi σ H fun J H1 => ∀ D, H1 D = none → ∃ W : Nat → Nat → St → Hp → Prop, (∃ m, W 0 m (startC nt fr σ) (upd H1 D (.lst []))) ∧
  ∀ i m σ' H', W i m σ' H' → (J.stop i H' ∧ Q (.ref D) H') ∨ (J.go i H' ∧ ∃ N : St → Hp → Prop, (∀ σ2 H2, N σ2 H2 → ∃ m', m' < m ∧ W (i + 1) m' σ2 H2) ∧
    ∀ x H2, J.yld i H' x H2 → g x σ' H2 fun σ2 H3 => tt σ2 H3 fun b H4 => if b = true then te σ2 H4 fun v H5 => ∃ ys, H5 D = some (.lst ys) ∧ ys.length < sizeLine ∧ N σ2 (upd H5 D (.lst (ys ++ [v]))) else N σ2 H4)
theorem comp_core2 {elt tg iter : Expr} {ifs : List Expr} {scope : Scope} {pos : Pos} {N : List Str} {nt : Nat} {fr : List Nat} {g : TG} {tt : TT} {te : TE} {use : Option (Value → Sem Unit)} {Qv : Value → Shared → Prop} {Q : VK}
    {J : It} {fp : List Addr} {it D : Addr} {tn : Nat → Heap → Prop} {W : Nat → Nat → St → Hp → Prop} {m0 : Nat} {h₁ : Heap} {mC : Str → Option Value} {tk : Nat}
    (I3 : Inv X pins σ H s) (hcalm : X.calm = true) (S : CompScope X N nt fr scope)
    (hb : ∀ pins' cl C s3 H3 fp, let Y := cxC X pins' N scope cl C s3 H3 fp; PG Y tg g ∧ PIfs Y ifs tt ∧ PE Y elt te)
    (T : Turn X.prog X.w X.K tg J fp it tn) (st2 : tn 0 s.heap) (f3 : ∀ b ∈ fp, FpOk X pins H b) (w0 : W 0 m0 (startC nt fr σ) H)
    (turn : ∀ i m σ' H', W i m σ' H' → (J.stop i H' ∧ Q (.ref D) H') ∨ (J.go i H' ∧ ∃ N : St → Hp → Prop, (∀ σ2 H2, N σ2 H2 → ∃ m', m' < m ∧ W (i + 1) m' σ2 H2) ∧
      ∀ x H2, J.yld i H' x H2 → g x σ' H2 fun σ2 H3 => tt σ2 H3 fun b H4 => if b = true then te σ2 H4 fun v H5 => ∃ ys, H5 D = some (.lst ys) ∧ ys.length < sizeLine ∧ N σ2 (upd H5 D (.lst (ys ++ [v]))) else N σ2 H4))
    (hns₁ : h₁.Ns s.heap.objs.size mC) (kept : ∀ b o, s.heap.get? b = some o → h₁.get? b = some o)
    (fin : ∀ D C s' H' m, Inv X pins σ H' s' → s'.heap.Ns C m → FpOk X pins H' C → Q (.ref D) H' → compPost (model X.prog X.w) X.A X.xe use Qv (.ref D) C (.ok .next) s') :
    codeAny (model X.prog X.w) X.A (.compStart (.ListComp elt [⟨tg, iter, ifs, 0⟩] scope pos) 0 (.ref it) (.ref D) (compEnvC scope (closC X.env scope.names []) s.heap.objs.size X.env))
      (compPost (model X.prog X.w) X.A X.xe use Qv (.ref D) s.heap.objs.size) { s with heap := h₁, toks := tk } := by
  have ofp : ∀ b ∈ fp, b < s.heap.objs.size := fun b hb => by
    obtain ⟨o, e, _⟩ := T.obj _ _ st2 b hb
    exact Heap.lt_size e
  have J4 := I3.block (N := N) (nt := nt) (fr := fr) (scope := scope) (fp := fp) (h1 := h₁) (C := s.heap.objs.size) (tk := tk) S rfl hns₁ kept f3 ofp
  generalize hY : cxC X pins N scope (closC X.env scope.names []) s.heap.objs.size s H fp = Y at J4
  have body := hb pins (closC X.env scope.names []) s.heap.objs.size s H fp
  rw [hY] at body
  obtain ⟨bg, bt, be⟩ := body
  have eP : Y.prog = X.prog := by rw [← hY]; rfl
  have eW : Y.w = X.w := by rw [← hY]; rfl
  have eK : Y.K = X.K := by rw [← hY]; rfl
  have eA : Y.A = X.A := by rw [← hY]; rfl
  have eC : Y.calm = true := by rw [← hY]; exact hcalm
  have eE : Y.env = compEnvC scope (closC X.env scope.names []) s.heap.objs.size X.env := by rw [← hY]; rfl
  have eX : Y.xe = fun _ _ => False := by rw [← hY]; rfl
  have eN : Y.ex = fp := by rw [← hY]; rfl
  have fY : ∀ {H' : Hp} {s' : Shared} {σ' : St}, Inv Y [] σ' H' s' → (∀ b ∈ fp, H' b = none) → ∀ b ∈ fp, FpOk Y [] H' b := fun {H' s' σ'} J' hn b hbf => by
    obtain ⟨e1, e2⟩ := J'.ok.exf b (by rw [eN]; exact hbf)
    refine ⟨hn b hbf, e1, J'.ok.exfs b (by rw [eN]; exact hbf), .inl (by rw [eN]; exact hbf), e2, fun p hp => ?_⟩
    have hp' : p ∈ X.pn ++ pins := by
      have z : p ∈ Y.pn ++ [] := hp
      rw [List.append_nil, ← hY] at z
      exact z
    exact (f3 b hbf).2.2.2.2.2 p hp'
  have st4 : tn 0 h₁ := T.keep _ _ _ st2 fun b hbf o e => kept b o e
  have fin' : ∀ {σ' : St} {H' : Hp} {s' : Shared}, Inv Y [] σ' H' s' → Q (.ref D) H' → compPost (model X.prog X.w) X.A X.xe use Qv (.ref D) s.heap.objs.size (.ok .next) s' := fun {σ' H' s'} J' q' => by
    obtain ⟨m', hn', _⟩ := J'.loc
    have e : Y.env.locals = s.heap.objs.size := by rw [eE]; rfl
    rw [e] at hn'
    have I' : Inv X pins σ H' s' := by
      rw [← hY] at J'
      exact I3.unblock f3 J'
    have hfree' : H' s.heap.objs.size = none := by
      have z := J'.free
      rw [e] at z
      exact z
    exact fin D s.heap.objs.size s' H' m' I' hn' (I3.fpOk (Nat.le_refl _) hfree') q'
  have loop : codeAny (model X.prog X.w) X.A (.compLoop (.ListComp elt [⟨tg, iter, ifs, 0⟩] scope pos) 0 (.ref it) (.ref D) (compEnvC scope (closC X.env scope.names []) s.heap.objs.size X.env))
      (compPost (model X.prog X.w) X.A X.xe use Qv (.ref D) s.heap.objs.size) { s with heap := h₁, toks := tk } := by
    refine compLoop_any (fun n s' => ∃ i σ' H', Inv Y [] σ' H' s' ∧ tn i s'.heap ∧ (∀ b ∈ fp, H' b = none) ∧ W i n σ' H') ?_ m0 ⟨0, _, _, J4, st4, fun b hbf => (f3 b hbf).1, w0⟩
    rintro n s5 ⟨i, σ5, H5, J5, st5, fr5, w5⟩
    rcases turn i n σ5 H5 w5 with ⟨stop, qn⟩ | ⟨go, Nn, hN, step⟩
    · rw [← eA]
      refine wpAny_mono (T.done Y eP eW eK eC i [] s5 σ5 H5 (fun _ _ => False) J5 (fY J5 fr5) st5 stop) (fun r s6 ⟨hr, J6⟩ => ?_) fun _ _ z => z
      subst hr
      rw [eA]
      exact fin' J6 qn
    · rw [← eA]
      refine wpAny_mono (T.item Y eP eW eK eC i [] s5 σ5 H5 (fun _ _ => False) J5 (fY J5 fr5) st5 go) (fun r s6 ⟨u, hr, h6⟩ => ?_) fun _ _ z => z
      subst hr
      refine wpAny_mono h6 (fun _ s7 ⟨x, H7, J7, r7, y7, st7, fr7⟩ => ?_) fun _ _ z => z
      have J7' := J7.pinned (fY J7 fr7) (T.obj _ _ st7)
      have a1 := bg _ s7 σ5 H7 x u _ J7' r7 (step x H7 y7)
      rw [eP, eW, eE, eX] at a1
      refine wpAny_mono a1 (fun _ s8 ⟨σ8, H8, J8, q8⟩ => ?_) fun _ _ z => z
      have a2 := bt _ s8 σ8 H8 _ J8 q8
      rw [eP, eW, eE, eX] at a2
      refine wpAny_mono a2 (fun ok s9 ⟨H9, J9, q9⟩ => ?_) fun _ _ z => z
      have again : ∀ {σa : St} {Ha : Hp} {sa : Shared}, Inv Y ([] ++ pinsAt fp s7.heap) σa Ha sa → Nn σa Ha → ∃ m, m < n ∧ ∃ i σ' H', Inv Y [] σ' H' sa ∧ tn i sa.heap ∧ (∀ b ∈ fp, H' b = none) ∧ W i m σ' H' := fun {σa Ha sa} Ja na => by
        obtain ⟨m', hm, wa⟩ := hN σa Ha na
        refine ⟨m', hm, i + 1, σa, Ha, Ja.unpinned, T.keep _ _ _ st7 fun b hbf o e => (Ja.pin (b, o) (List.mem_append_right _ (List.mem_append_right _ (mem_pinsAt hbf e)))).1, fun b hbf => ?_, wa⟩
        obtain ⟨o, e, d⟩ := T.obj _ _ st7 b hbf
        exact (Ja.pin (b, o) (List.mem_append_right _ (List.mem_append_right _ (mem_pinsAt hbf e)))).2.1
      cases ok with
      | false =>
        rw [if_neg Bool.false_ne_true] at q9 ⊢
        exact again J9 q9
      | true =>
        rw [if_pos rfl] at q9 ⊢
        have a3 := be _ s9 σ8 H9 _ J9 q9
        rw [eP, eW, eE, eX] at a3
        refine wpAny_mono a3 (fun v s10 ⟨y, H10, J10, r10, ys, hys, hl, q10⟩ => ?_) fun _ _ z => z
        have a4 := mt_append (X := Y) _ s10 σ8 H10 (.ref D) [y] (.ref D) [v] (fun _ Hq => Nn σ8 Hq) J10 rfl (.cons r10 .nil) ⟨D, ys, y, rfl, rfl, hys, hl, q10⟩
        rw [eP, eW, eX] at a4
        refine wpAny_mono a4 (fun _ s11 ⟨_, H11, J11, _, q11⟩ => ?_) fun _ _ z => z
        exact again J11 q11
  exact codeAny_compStart_list loop (T.self _ 0 _ _ _ st4 loop)
theorem comp_core {elt tg iter : Expr} {ifs : List Expr} {scope : Scope} {pos pos' : Pos} {N : List Str} {nt : Nat} {fr : List Nat} {wi : TI} {g : TG} {tt : TT} {te : TE} {use : Option (Value → Sem Unit)} {Qv : Value → Shared → Prop} {Q : VK}
    (I : Inv X pins σ H s) (hcalm : X.calm = true) (S : CompScope X N nt fr scope) (hi : PI X tg iter wi)
    (hb : ∀ pins' cl C s3 H3 fp, let Y := cxC X pins' N scope cl C s3 H3 fp; PG Y tg g ∧ PIfs Y ifs tt ∧ PE Y elt te)
    (q : tComp nt fr wi g tt te σ H Q)
    (fin : ∀ D C s' H' m, Inv X pins σ H' s' → s'.heap.Ns C m → FpOk X pins H' C → Q (.ref D) H' → compPost (model X.prog X.w) X.A X.xe use Qv (.ref D) C (.ok .next) s')
    (hs : ∀ x, foldedSetIterable iter X.env x = pure x := by intro _; rfl) :
    wpAny (model X.prog X.w) X.A (comprehension (.ListComp elt [⟨tg, iter, ifs, 0⟩] scope pos) scope X.env pos' (newList []) false (eval iter X.env) use) Qv X.xe s := by
  have hfree : ∀ x ∈ scope.names, x.2 = NameKind.free → ∃ c, X.env.cells.lookup x.1 = some c := fun x hx e => I.ok.has x.1 (.inl (S.free x hx e))
  refine wpAny_comprehension_free rfl hs (closC_eq hfree) S.kind S.names (thn (hi pins s σ H _ I q) fun v s1 h1 => thn h1 fun itv s2 h2 => ?_)
  obtain ⟨it, fp, tn, J, H2, rfl, I2, T, st2, f2, q2⟩ := h2
  refine wpAny_newObj_type (wpAny_newFunctionEnv S.cell (by intro y hy; simp at hy) (fun h₁ hns₁ hsb₁ => ?_) S.kind)
  dsimp only at hns₁ hsb₁ ⊢
  have I3 : Inv X pins σ (upd H2 s2.heap.objs.size (.lst [])) { s2 with heap := s2.heap.push { cls := .type "list", data := .seq ([] : List Value).toArray } } := I2.lnew (its := []) (ys := []) (t' := s2.toks) .nil (by simp)
  obtain ⟨W, ⟨m0, w0⟩, turn⟩ := q2 s2.heap.objs.size I2.fresh
  have ofp : ∀ b ∈ fp, b < s2.heap.objs.size := fun b hb => by
    obtain ⟨o, e, _⟩ := T.obj _ _ st2 b hb
    exact Heap.lt_size e
  have f3 : ∀ b ∈ fp, FpOk X pins (upd H2 s2.heap.objs.size (.lst [])) b := fun b hb => by
    obtain ⟨f0, fr'⟩ := f2 b hb
    exact ⟨by rw [upd_ne (Nat.ne_of_lt (ofp b hb))]; exact f0, fr'⟩
  exact comp_core2 (D := s2.heap.objs.size) (tn := tn) (W := W) (m0 := m0) (tk := s2.toks + ([] : List (Str × Value)).length) I3 hcalm S hb T (T.keep _ _ _ st2 fun b hbf o e => Heap.get?_push_of_some _ e) f3 w0 turn hns₁
    (fun b o e => hsb₁.extBut b o (Nat.ne_of_lt (Heap.lt_size e)) (Heap.get?_push_of_some _ e)) fin
end
end L2
namespace L2
open PySem PySem.Spec PyProof.Rows
section
variable {X : Cx}
theorem pe_comp {elt tg iter : Expr} {ifs : List Expr} {scope : Scope} {pos : Pos} {N : List Str} {nt : Nat} {fr : List Nat} {wi : TI} {g : TG} {tt : TT} {te : TE}
    (hcalm : X.calm = true) (S : CompScope X N nt fr scope) (hi : PI X tg iter wi)
    (hb : ∀ pins' cl C s3 H3 fp, let Y := cxC X pins' N scope cl C s3 H3 fp; PG Y tg g ∧ PIfs Y ifs tt ∧ PE Y elt te)
    (hs : ∀ x, foldedSetIterable iter X.env x = pure x := by intro _; rfl) :
    PE X (.ListComp elt [⟨tg, iter, ifs, 0⟩] scope pos) (tComp nt fr wi g tt te) := by
  intro pins s σ H Q I q
  rw [eval_ListComp]
  refine comp_core (use := none) (Qv := EP X pins σ Q) I hcalm S hi hb q (fun D C s' H' m J hn f q' => ?_) hs
  exact ⟨m, hn, fun h' hs' => ⟨.ref D, H', J.turned (t' := s'.toks) (fun b o hb e => (hs'.2 b hb).trans e) f.1 f.2.1 f.2.2.2.1 f.2.2.2.2.1 f.2.2.2.2.2, rfl, q'⟩⟩
theorem ps_setComp {i : Nat} {y : Str} {py spos : Pos} {elt tg iter : Expr} {ifs : List Expr} {scope : Scope} {pos : Pos} {N : List Str} {nt : Nat} {fr : List Nat} {wi : TI} {g : TG} {tt : TT} {te : TE}
    (hN : X.N.Nodup) (hj : X.N[i]? = some y) (hy : Loc X.env.scope y)
    (hcalm : X.calm = true) (S : CompScope X N nt fr scope) (hi : PI X tg iter wi)
    (hb : ∀ pins' cl C s3 H3 fp, let Y := cxC X pins' N scope cl C s3 H3 fp; PG Y tg g ∧ PIfs Y ifs tt ∧ PE Y elt te)
    (hsw : swapsWith (.ListComp elt [⟨tg, iter, ifs, 0⟩] scope pos) (some (.Name y py)) spos.line X.env = pure true := by rfl)
    (hs : ∀ x, foldedSetIterable iter X.env x = pure x := by intro _; rfl) (hf : X.fn y = true ∨ X.env.scope.names.lookup y = some .local := by first | exact .inl rfl | exact .inr rfl | assumption) :
    PS X (.Assign [.Name y py] (.ListComp elt [⟨tg, iter, ifs, 0⟩] scope pos) spos) (tAsg (tComp nt fr wi g tt te) (gName i)) := by
  intro pins s σ H D I q
  rw [exec_Assign_Name_used _ _ _ _ hsw]
  refine wpAny_bind (wpAny_standAt (wpAny_bind ?_))
  show wpAny _ _ (do let _ ← comprehension (.ListComp elt [⟨tg, iter, ifs, 0⟩] scope pos) scope X.env _ (newList []) false (eval iter X.env) (some (assign (.Name y py) X.env))) _ _ s
  refine wpAny_bind (wpAny_mono (comp_core (use := some (assign (.Name y py) X.env)) (Qv := fun _ s' => SP X pins D .next s') (Q := fun v H1 => gName i v σ H1 D.nx) I hcalm S hi hb q (fun D' C s' H' m J hn f q' => ?_) hs) (fun _ s' hq => wpAny_pure (wpAny_pure hq)) fun _ _ e => e)
  show wpAny _ _ (assign (.Name y py) X.env (.ref D')) _ _ _
  refine wpAny_assign_Name (store_ok2 J hN hj hy (v := .ref D') rfl (fun s'' J'' ⟨a, hsb, ha⟩ => ?_) hf)
  have hCa : C ≠ a := by
    rcases ha with ha | ha
    · rw [ha]; exact f.2.1
    · exact fun z => f.2.2.2.2.1 y a ha z.symm
  refine ⟨m, hn.sameBut hsb hCa, fun h' hs' => ⟨_, H', J''.turned (t' := s''.toks) (fun b o hb e => (hs'.2 b hb).trans e) f.1 f.2.1 f.2.2.2.1 f.2.2.2.2.1 f.2.2.2.2.2, q'⟩⟩
end
theorem same_new {H : Hp} {D : Addr} {o : HO} (h : H D = none) : Same H (upd H D o) := fun b u e => by rw [upd_ne (ne_of_none e h)]; exact e
theorem take_snoc {α : Type} {xs : List α} {i : Nat} {x : α} (h : xs[i]? = some x) : xs.take (i + 1) = xs.take i ++ [x] := by
  rw [List.take_add_one, h]; rfl
end L2
namespace L2
open PySem PySem.Spec PyProof.Rows
def Ite (K : PySem.W.Frag) (a : Addr) : It :=
  ⟨fun i H => ∃ xs x, SqL K H a xs ∧ xs[i]? = some x, fun i H x H' => ∃ p y, H p = none ∧ x = .ref p ∧ H' = upd H p (.tup [.int i, y]) ∧ ∀ xs, SqL K H a xs → xs[i]? = some y, fun i H => ∃ xs, SqL K H a xs ∧ xs.length ≤ i⟩
theorem turn_enum {P : Program} {w : World} {K : PySem.W.Frag} {elts : List Expr} {k : Nat} {pos : Pos} (a it e : Addr) (hei : e ≠ it) : Turn P w K (.Tuple elts k pos) (Ite K a) [e, it] e (fun i h => (∃ old, IsEnum h e it i old) ∧ h.IsListIter it a i) where
  mem := by simp
  obj := fun i h st b hb => by
    obtain ⟨⟨old, he⟩, o, ho, hc, hd⟩ := st
    rcases List.mem_cons.mp hb with rfl | hb
    · exact ⟨_, he, fun v z => by
        have z' : Data.fields _ = Data.cell v := z
        cases z'⟩
    · have e' : b = it := by simpa using hb
      subst e'
      exact ⟨o, ho, fun v z => by rw [hd] at z; cases z⟩
  keep := fun i h h' st k => by
    obtain ⟨⟨old, he⟩, hit⟩ := st
    exact ⟨⟨old, k e (by simp) _ he⟩, hit.at fun o x => k it (by simp) o x⟩
  item := by
    intro X hP hw hK hc i pins s σ H E I hf st hg
    subst hP hw hK
    obtain ⟨xs, x, hq, hx⟩ := hg
    obtain ⟨⟨old, he⟩, hit⟩ := st
    obtain ⟨its, rv, p, hz⟩ := I.list hq
    obtain ⟨u, hu, ru⟩ := rv.get hx
    refine wpAny_pyNext_enum_item he hit p.isList (x := u) (by simpa using hu) hei fun h' ho hit' hT hsz hk => ⟨_, rfl, ?_⟩
    refine wpAny_letOwnedTupleGo_enum ho fun h'' he'' hs'' => ?_
    have helt : e < s.heap.objs.size := Heap.lt_size he
    have hTe : s.heap.objs.size ≠ e := Nat.ne_of_gt helt
    have hn : H s.heap.objs.size = none := I.hok.fresh (Nat.le_refl _)
    have hk' : ∀ b o, b ≠ e → b ≠ it → s.heap.get? b = some o → h''.get? b = some o := fun b o h1 h2 q => (hs''.2 b h1).trans (hk b o h1 h2 q)
    have hT' : h''.get? s.heap.objs.size = some { cls := .type "tuple", data := .seq #[.int i s.toks, u] } := (hs''.2 _ hTe).trans hT
    have nt : ∀ b o, H b = some o → b ≠ e ∧ b ≠ it := fun b o q => by
      constructor
      · rintro rfl
        rw [(hf b (by simp)).1] at q; cases q
      · rintro rfl
        rw [(hf b (by simp)).1] at q; cases q
    have fl := hf e (by simp)
    have fi := hf it (by simp)
    have I1 : Inv X pins σ (upd H s.heap.objs.size (.tup [.int i, x])) { s with heap := h'', toks := s.toks + 1 } := by
      refine I.step (g' := s.gens) (d' := s.drawn) (ch := [e, it]) (fun b hb => ?_) (fun b o _ _ hc' q _ => hk' b o (fun z => hc' (by simp [z])) (fun z => hc' (by simp [z])) q)
        (fun b o _ _ hc' q _ => ⟨o.slots, hk' b o (fun z => hc' (by simp [z])) (fun z => hc' (by simp [z])) q⟩) (fun b o _ q n => ?_) (fun b o hc' q => ⟨o, hk' b o (fun z => hc' (by simp [z])) (fun z => hc' (by simp [z])) q⟩)
        (fun b ys q => ?_) (fun b o u' q => ?_) (fun b ps q => ⟨#[], ?_⟩) (fun m hm => ?_) (fun b o q => ?_) I.bare
      · have hb' : b ∈ [e, it] := hb
        exact ⟨(hf b hb').2.2.2.1, (hf b hb').2.1, (hf b hb').2.2.2.2.1, (hf b hb').2.2.2.2.2⟩
      · rw [upd_ne (Nat.ne_of_lt (Heap.lt_size q))]; exact n
      · rw [upd_ne (ne_of_none q hn)]; exact q
      · rw [upd_ne (ne_of_none q hn)]; exact q
      · rw [upd_ne (ne_of_none q hn), q]; simp
      · obtain ⟨o, es, ep, ho', r⟩ := hm
        exact ⟨o, es, ep, hk' _ o (Ne.symm fl.2.1) (Ne.symm fi.2.1) ho', r⟩
      · by_cases hb : b = s.heap.objs.size
        · subst hb
          rw [upd_same] at q
          cases q
          refine ⟨by simp only [List.length_cons, List.length_nil]; rw [sizeLine_eq]; decide, [.int i s.toks, u], .cons ⟨_, rfl⟩ (.cons ru .nil), _, hT', rfl, 0, rfl⟩
        · rw [upd_ne hb] at q
          refine (I.hok b o q).stay (fun c v hc' q' => ?_) (fun c q' => by rw [upd_ne (ne_of_none q' hn)]; exact q') fun c ys q' => by rw [upd_ne (ne_of_none q' hn)]; exact q'
          rcases hc' with z | z
          · rw [z] at q' ⊢
            exact hk' b v (nt b o q).1 (nt b o q).2 q'
          · exact hk' c v (nt c _ z).1 (nt c _ z).2 q'
    refine ⟨.ref s.heap.objs.size, _, I1, rfl, ⟨_, x, hn, rfl, rfl, fun ys hy => by rw [I.list_inj hy hq]; exact hx⟩, ⟨⟨u, by simpa using he''⟩, hit'.at fun o q => (hs''.2 it (Ne.symm hei)).trans q⟩, fun b hb => ?_⟩
    have hbl : b < s.heap.objs.size := by
      rcases List.mem_cons.mp hb with rfl | hb
      · exact helt
      · have e' : b = it := by simpa using hb
        subst e'
        obtain ⟨o, q, _⟩ := hit
        exact Heap.lt_size q
    rw [upd_ne (Nat.ne_of_lt hbl)]
    exact (hf b hb).1
  done := by
    intro X hP hw hK hc i pins s σ H E I hf st hg
    subst hP hw hK
    obtain ⟨xs, hq, hx⟩ := hg
    obtain ⟨⟨old, he⟩, hit⟩ := st
    obtain ⟨its, rv, p, hz⟩ := I.list hq
    obtain ⟨f0, f1, f2, f3, f4, f5⟩ := hf it (by simp)
    have hl := rv.length
    exact wpAny_pyNext_enum_end (I.ok.hd hc) he hit p.isList (by simp; omega) fun h' eb => ⟨rfl, I.turned (t' := s.toks) (fun b o hb e => eb b o hb e) f0 f1 f3 f4 f5⟩
  self := fun _ _ _ _ _ st h => by
    obtain ⟨⟨old, he⟩, _⟩ := st
    exact wpAny_pyIter_enum he h
def iEnum (K : PySem.W.Frag) (ta : TA) : TI := fun σ H R => ta σ H fun vs H1 => ∃ a, vs = [.ref a] ∧ (∃ xs, SqL K H1 a xs) ∧ R (Ite K a) H1
theorem pi_enum {X : Cx} {elts : List Expr} {k : Nat} {tpos p pos : Pos} {a : Expr} {ta : TA} (hg : Gl X "enumerate") (hm : X.mg "enumerate" = none) (ha : PA X [a] ta) (hs : starEach [a] X.env = [(false, eval a X.env)] := by rfl) :
    PI X (.Tuple elts k tpos) (.Call (.Name "enumerate" p) [a] [] pos) (iEnum X.K ta) := by
  intro pins s σ H R I h
  refine Call_ (ld_blt I hg hm boot_enumerate (PyProof.Rows.callWith_type1 (thn (ha pos pins s σ H _ I h) fun us s1 ⟨vs, H1, I1, r1, q1⟩ => ?_) hs rfl))
  obtain ⟨l, e, ⟨xs, hq⟩, q⟩ := q1
  subst e
  cases r1 with
  | cons r rr =>
    cases rr
    cases r
    obtain ⟨its, rv, pl, hz⟩ := I1.list hq
    refine call_enumerate_list pl.isList fun h' he hit hsz hk => ?_
    have I2 : Inv X pins σ H1 { s1 with heap := h' } := I1.kept (t' := s1.toks) hk
    refine wpAny_pyIter_enum he ?_
    refine ⟨s1.heap.objs.size + 1, [s1.heap.objs.size + 1, s1.heap.objs.size], _, _, H1, rfl, I2, turn_enum l s1.heap.objs.size (s1.heap.objs.size + 1) (Nat.succ_ne_self _), ⟨⟨_, he⟩, hit⟩, fun b hb => ?_, q⟩
    have hb' : s1.heap.objs.size ≤ b := by
      rcases List.mem_cons.mp hb with rfl | hb
      · exact Nat.le_succ _
      · have e' : b = s1.heap.objs.size := by simpa using hb
        subst e'
        exact Nat.le_refl _
    exact I1.fpOk hb' (I1.hok.fresh hb')
theorem for_enum {K : PySem.W.Frag} {a : Addr} {xs : List V} {g : TG} {tb : TS} {D : Ends} {σ : St} {H : Hp} (Pv : Nat → St → Hp → Prop) (h0 : Pv 0 σ H) (hl : ∀ i σ H, i ≤ xs.length → Pv i σ H → SqL K H a xs)
    (hs : ∀ i x σ H p, xs[i]? = some x → Pv i σ H → H p = none → g (.ref p) σ (upd H p (.tup [.int i, x])) fun σ2 H2 => tb { D with nx := Pv (i + 1), ct := Pv (i + 1), bk := D.nx } σ2 H2) (hd : ∀ σ H, Pv xs.length σ H → D.nx σ H) :
    ∃ W : Nat → Nat → St → Hp → Prop, (∃ m, W 0 m σ H) ∧ ∀ i m σ H, W i m σ H →
      ((Ite K a).stop i H ∧ D.nx σ H) ∨ ((Ite K a).go i H ∧ ∃ N : St → Hp → Prop, (∀ σ' H', N σ' H' → ∃ m', m' < m ∧ W (i + 1) m' σ' H') ∧ ∀ x H', (Ite K a).yld i H x H' → g x σ H' fun σ2 H2 => tb { D with nx := N, ct := N, bk := D.nx } σ2 H2) := by
  refine ⟨fun i m σ H => m = xs.length - i ∧ i ≤ xs.length ∧ Pv i σ H, ⟨xs.length, by simp, Nat.zero_le _, h0⟩, ?_⟩
  rintro i m σ H ⟨rfl, hi, p⟩
  have q := hl i σ H hi p
  by_cases hlt : i < xs.length
  · refine .inr ⟨⟨xs, xs[i], q, by simp [hlt]⟩, Pv (i + 1), fun σ' H' p' => ⟨xs.length - (i + 1), by omega, rfl, hlt, p'⟩, fun x H' y => ?_⟩
    obtain ⟨t, z, hn, rfl, rfl, y⟩ := y
    exact hs i z σ H t (y xs q) p hn
  · have e : i = xs.length := by omega
    subst e
    exact .inl ⟨⟨xs, q, Nat.le_refl _⟩, hd σ H p⟩
theorem call_isi {X : Cx} : CallR X (.builtin "isinstance") (fun xs H Q => ∃ x T t b, xs = [x, .ty T] ∧ TyOf X.K H x t ∧ PySem.W.kitOne X.K t (.type T) = some b ∧ Q (.bl b) H) := by
  intro pins s σ H xs us Q I r h
  obtain ⟨x, T, t, b, rfl, ty, e, q⟩ := h
  obtain ⟨u, w', rfl, rx, rt⟩ := vals2 r
  cases rt
  exact isinst_ok I rx ty e fun tk => ⟨.bl b, H, I.tok _, rfl, q⟩
mutual
inductive DatA (K : PySem.W.Frag) (H : Hp) : V → PyData → Prop where
  | non : DatA K H .non .none
  | bl (b : Bool) : DatA K H (.bl b) (.bool b)
  | int (i : Int) : DatA K H (.int i) (.int i)
  | str (x : Str) : DatA K H (.str x) (.str x)
  | lst {a : Addr} {xs : List V} {ds : List PyData} : SqL K H a xs → DatAs K H xs ds → DatA K H (.ref a) (.list ds)
  | tup {a : Addr} {xs : List V} {ds : List PyData} : SqT K H a xs → DatAs K H xs ds → DatA K H (.ref a) (.tuple ds)
inductive DatAs (K : PySem.W.Frag) (H : Hp) : List V → List PyData → Prop where
  | nil : DatAs K H [] []
  | cons {x : V} {xs : List V} {d : PyData} {ds : List PyData} : DatA K H x d → DatAs K H xs ds → DatAs K H (x :: xs) (d :: ds)
end
mutual
theorem reads_of {X : Cx} {pins : List (Addr × Obj)} {σ : St} {H : Hp} {s : Shared} (I : Inv X pins σ H s) : ∀ {x : V} {d : PyData}, DatA X.K H x d → ∀ {u : Value}, RelV x u → ∃ as, Reads s.heap u d as
  | _, _, .non, _, r => by cases r; exact ⟨[], .none⟩
  | _, _, .bl b, _, r => by cases r; exact ⟨[], .bool b⟩
  | _, _, .int i, _, r => by obtain ⟨t, rfl⟩ := r; exact ⟨[], .int i t⟩
  | _, _, .str x, _, r => by obtain ⟨t, rfl⟩ := r; exact ⟨[], .str x t⟩
  | _, _, .lst h hs, _, r => by
    cases r
    obtain ⟨its, rv, ⟨o, n, e, c, _, d⟩, _⟩ := I.list h
    obtain ⟨as, ra⟩ := reads_all I hs rv
    exact ⟨_, .list e c d ra⟩
  | _, _, .tup h hs, _, r => by
    cases r
    obtain ⟨its, rv, ⟨o, e, c, n, d⟩, _⟩ := I.tuple h
    obtain ⟨as, ra⟩ := reads_all I hs rv
    exact ⟨_, .tuple e c d ra⟩
theorem reads_all {X : Cx} {pins : List (Addr × Obj)} {σ : St} {H : Hp} {s : Shared} (I : Inv X pins σ H s) : ∀ {xs : List V} {ds : List PyData}, DatAs X.K H xs ds → ∀ {us : List Value}, Vals xs us → ∃ as, ReadsAll s.heap us ds as
  | _, _, .nil, _, r => by cases r; exact ⟨[], .nil⟩
  | _, _, .cons h hs, _, r => by
    cases r with
    | cons r1 r2 =>
      obtain ⟨as, ra⟩ := reads_of I h r1
      obtain ⟨bs, rb⟩ := reads_all I hs r2
      exact ⟨_, .cons ra rb⟩
end
def rEqD (K : PySem.W.Frag) (neg : Bool) : R2 := fun x y H Q => ∃ da db, DatA K H x da ∧ DatA K H y db ∧ PySem.SeqAt.shaped da = true ∧ PySem.SeqAt.shaped db = true ∧ Q (.bl (if neg then !PyData.eqv da db else PyData.eqv da db)) H
theorem op_eqD {X : Cx} (hu : X.A.units + 64 < cLine) : OpR X (compareOp .Eq) (rEqD X.K false) := by
  intro pins s σ H x y v u Q I rx ry h
  obtain ⟨da, db, ha, hb, sa, sb, q⟩ := h
  obtain ⟨as, ra⟩ := reads_of I ha rx
  obtain ⟨bs, rb⟩ := reads_of I hb ry
  exact PySem.SeqAt.compareEq_shaped ra rb sa sb hu ⟨.bl _, H, I, rfl, q⟩
theorem op_neD {X : Cx} (hu : X.A.units + 64 < cLine) : OpR X (compareOp .NotEq) (rEqD X.K true) := by
  intro pins s σ H x y v u Q I rx ry h
  obtain ⟨da, db, ha, hb, sa, sb, q⟩ := h
  obtain ⟨as, ra⟩ := reads_of I ha rx
  obtain ⟨bs, rb⟩ := reads_of I hb ry
  exact PySem.SeqAt.compareNe_shaped ra rb sa sb hu ⟨.bl _, H, I, rfl, q⟩
end L2
namespace RC
open PySem
abbrev Deed := Int × Str × Int
abbrev W.take : Str := "take"
abbrev W.give : Str := "give"
abbrev W.fork : Str := "fork"
abbrev W.wait : Str := "wait"
def words : List Str := ["read", "write", "take", "give", "fork", "wait"]
def form (many : Int) (d : Deed) : Option Str :=
  if ¬ (0 ≤ d.1 ∧ d.1 < many) then some "thread"
  else if ¬ d.2.1 ∈ words then some "word"
  else if d.2.2 < 0 ∨ ((d.2.1 = W.fork ∨ d.2.1 = W.wait) ∧ many ≤ d.2.2) then some "thing" else none
structure Pst where
  awake : Int → Bool
  gone : Int → Bool
  hold : Int → Option Int
def pst0 : Pst := ⟨fun n => decide (n = 0), fun _ => false, fun _ => none⟩
def follow (s : Pst) (d : Deed) : Pst :=
  ⟨fun n => s.awake n || decide (d.2.1 = W.fork ∧ n = d.2.2), fun n => s.gone n || decide (d.2.1 = W.wait ∧ n = d.2.2),
   fun n => if n = d.2.2 ∧ d.2.1 = W.take then some d.1 else if n = d.2.2 ∧ d.2.1 = W.give then none else s.hold n⟩
def thF (s : Pst) (t : Int) : Option Str := if s.awake t = false then some "asleep" else if s.gone t = true then some "gone" else none
def woF (s : Pst) (d : Deed) : Option Str :=
  if d.2.1 = W.take ∧ (s.hold d.2.2).isSome = true then some "held"
  else if d.2.1 = W.give ∧ s.hold d.2.2 ≠ some d.1 then some "loose"
  else if d.2.1 = W.fork ∧ s.awake d.2.2 = true then some "twice"
  else if d.2.1 = W.wait ∧ s.awake d.2.2 = false then some "unborn"
  else if d.2.1 = W.wait ∧ d.2.2 = d.1 then some "self" else none
def stF (s : Pst) (d : Deed) : Option Str := (thF s d.1).or (woF s d)
def faultOf (many : Int) (s : Pst) (d : Deed) : Option Str := (form many d).or (stF s d)
def stOf (ds : List Deed) : Pst := ds.foldl follow pst0
theorem stOf_snoc (ds : List Deed) (d : Deed) : stOf (ds ++ [d]) = follow (stOf ds) d := by
  unfold stOf
  rw [List.foldl_append]
  rfl
def Fault (many : Int) (ds : List Deed) : Option (Nat × Str) → Prop
  | none => ∀ j d, ds[j]? = some d → faultOf many (stOf (ds.take j)) d = none
  | some (i, w) => (∃ d, ds[i]? = some d ∧ faultOf many (stOf (ds.take i)) d = some w) ∧ ∀ j d, j < i → ds[j]? = some d → faultOf many (stOf (ds.take j)) d = none
theorem Fault.inj {many : Int} {ds : List Deed} : ∀ {r r' : Option (Nat × Str)}, Fault many ds r → Fault many ds r' → r = r'
  | none, none, _, _ => rfl
  | none, some (i, w), h, ⟨⟨d, e, f⟩, _⟩ => by rw [h i d e] at f; cases f
  | some (i, w), none, ⟨⟨d, e, f⟩, _⟩, h => by rw [h i d e] at f; cases f
  | some (i, w), some (j, v), ⟨⟨d, e, f⟩, h⟩, ⟨⟨d', e', f'⟩, h'⟩ => by
    rcases Nat.lt_trichotomy i j with q | q | q
    · rw [h' i d q e] at f; cases f
    · subst q
      rw [e] at e'
      cases e'
      rw [f] at f'
      cases f'
      rfl
    · rw [h j d' q e'] at f'; cases f'
theorem take_of {ds : List Deed} {n j : Nat} {d : Deed} (h : (ds.take n)[j]? = some d) : ds[j]? = some d ∧ (ds.take n).take j = ds.take j ∧ j < n := by
  rw [List.getElem?_take] at h
  by_cases q : j < n
  · rw [if_pos q] at h
    refine ⟨h, ?_, q⟩
    rw [List.take_take, Nat.min_eq_left (Nat.le_of_lt q)]
  · rw [if_neg q] at h
    cases h
theorem Fault.take {many : Int} {ds : List Deed} (h : Fault many ds none) (n : Nat) : Fault many (ds.take n) none := fun j d e => by
  obtain ⟨e1, e2, _⟩ := take_of e
  rw [e2]
  exact h j d e1
end RC
namespace RC
open PySem
abbrev W.read : Str := "read"
abbrev W.write : Str := "write"
theorem nTG : W.take ≠ W.give := by decide +kernel
theorem nTF : W.take ≠ W.fork := by decide +kernel
theorem nTW : W.take ≠ W.wait := by decide +kernel
theorem nGF : W.give ≠ W.fork := by decide +kernel
theorem nGW : W.give ≠ W.wait := by decide +kernel
theorem nFW : W.fork ≠ W.wait := by decide +kernel
theorem nRT : W.read ≠ W.take := by decide +kernel
theorem nRG : W.read ≠ W.give := by decide +kernel
theorem nRF : W.read ≠ W.fork := by decide +kernel
theorem nRW : W.read ≠ W.wait := by decide +kernel
theorem nWT : W.write ≠ W.take := by decide +kernel
theorem nWG : W.write ≠ W.give := by decide +kernel
theorem nWF : W.write ≠ W.fork := by decide +kernel
theorem nWW : W.write ≠ W.wait := by decide +kernel
theorem mem_words {w : Str} (h : w = W.read ∨ w = W.write ∨ w = W.take ∨ w = W.give ∨ w = W.fork ∨ w = W.wait) : w ∈ words := by
  unfold words
  rcases h with rfl | rfl | rfl | rfl | rfl | rfl <;> simp
theorem getElem_snoc {α : Type} {l : List α} {a b : α} {j : Nat} (h : (l ++ [a])[j]? = some b) : l[j]? = some b ∨ (j = l.length ∧ b = a) := by
  rcases Nat.lt_trichotomy j l.length with q | q | q
  · rw [List.getElem?_append_left q] at h; exact .inl h
  · subst q
    rw [List.getElem?_append_right (Nat.le_refl _)] at h
    simp at h
    exact .inr ⟨rfl, h.symm⟩
  · rw [List.getElem?_append_right (Nat.le_of_lt q)] at h
    have : j - l.length ≠ 0 := by omega
    cases e : j - l.length with
    | zero => omega
    | succ k => rw [e] at h; simp at h
theorem Fault.snoc {many : Int} {ds : List Deed} {d : Deed} (h : Fault many ds none) (f : faultOf many (stOf ds) d = none) : Fault many (ds ++ [d]) none := fun j e he => by
  rcases getElem_snoc he with q | ⟨rfl, rfl⟩
  · have hj : j < ds.length := (List.getElem?_eq_some_iff.mp q).1
    rw [List.take_append_of_le_length (Nat.le_of_lt hj)]
    exact h j e q
  · rw [List.take_append_of_le_length (Nat.le_refl _), List.take_length]
    exact f
theorem orF {a : Bool} {P : Prop} [Decidable P] (h : ¬ P) : (a || decide P) = a := by rw [decide_eq_false h, Bool.or_false]
structure Gen (many : Int) (as ps : List Int) (hold : Int → Option Int) (ds : List Deed) : Prop where
  bnd : ∀ a ∈ as, 0 ≤ a ∧ a < many
  sub : ∀ x ∈ ps, x ∈ as
  live : ∃ t ∈ as, ¬ t ∈ ps
  sa : ∀ n, (stOf ds).awake n = decide (n ∈ as)
  sg : ∀ n, (stOf ds).gone n = decide (n ∈ ps)
  sh : ∀ x, (stOf ds).hold x = hold x
  fa : Fault many ds none
theorem Gen.start {many : Int} (h : 1 ≤ many) : Gen many [0] [] (fun _ => none) [] where
  bnd := fun a ha => by
    have : a = 0 := by simpa using ha
    subst this
    omega
  sub := fun x hx => by cases hx
  live := ⟨0, by simp, by simp⟩
  sa := fun n => by simp [stOf, pst0]
  sg := fun n => by simp [stOf, pst0]
  sh := fun _ => rfl
  fa := fun j d h => by simp at h
section
variable {many : Int} {as ps : List Int} {hold : Int → Option Int} {ds : List Deed} {t x : Int} {w : Str}
theorem Gen.thr (g : Gen many as ps hold ds) (ht : t ∈ as) (hp : ¬ t ∈ ps) : thF (stOf ds) t = none := by
  unfold thF
  rw [g.sa, g.sg]
  simp [ht, hp]
theorem form_ok (ht : 0 ≤ t ∧ t < many) (hw : w ∈ words) (hx : 0 ≤ x) (hf : w = W.fork ∨ w = W.wait → x < many) : form many (t, w, x) = none := by
  unfold form
  rw [if_neg (fun z => z ht), if_neg (fun z => z hw), if_neg]
  rintro (z | ⟨z1, z2⟩)
  · exact absurd hx (by show ¬ (0 ≤ x); have : x < 0 := z; omega)
  · have := hf z1
    have : many ≤ x := z2
    omega
theorem Gen.step (g : Gen many as ps hold ds) (ht : t ∈ as) (hp : ¬ t ∈ ps) (hw : w ∈ words) (hx : 0 ≤ x) (hf : w = W.fork ∨ w = W.wait → x < many) (ho : woF (stOf ds) (t, w, x) = none) : Fault many (ds ++ [(t, w, x)]) none := by
  refine g.fa.snoc ?_
  unfold faultOf stF
  rw [form_ok (g.bnd t ht) hw hx hf, g.thr ht hp, ho]
  rfl
theorem Gen.fork (g : Gen many as ps hold ds) (ht : t ∈ as) (hp : ¬ t ∈ ps) (hx : 0 ≤ x) (hm : x < many) (hn : ¬ x ∈ as) : Gen many (as ++ [x]) ps hold (ds ++ [(t, W.fork, x)]) where
  bnd := fun a ha => by
    rcases List.mem_append.mp ha with q | q
    · exact g.bnd a q
    · have : a = x := by simpa using q
      subst this
      exact ⟨hx, hm⟩
  sub := fun y hy => List.mem_append_left _ (g.sub y hy)
  live := ⟨t, List.mem_append_left _ ht, hp⟩
  sa := fun n => by
    rw [stOf_snoc]
    show ((stOf ds).awake n || decide (W.fork = W.fork ∧ n = x)) = _
    rw [g.sa, ← Bool.decide_or]
    exact decide_eq_decide.mpr (by simp)
  sg := fun n => by
    rw [stOf_snoc]
    show ((stOf ds).gone n || decide (W.fork = W.wait ∧ n = x)) = _
    rw [orF (fun z => nFW z.1), g.sg]
  sh := fun n => by
    rw [stOf_snoc]
    show (if n = x ∧ W.fork = W.take then some t else if n = x ∧ W.fork = W.give then none else (stOf ds).hold n) = _
    rw [if_neg (fun z => nTF z.2.symm), if_neg (fun z => nGF z.2.symm), g.sh]
  fa := g.step ht hp (mem_words (by simp)) hx (fun _ => hm) (by
    unfold woF
    rw [if_neg (fun z => nTF z.1.symm), if_neg (fun z => nGF z.1.symm), if_neg (fun z => by
      have z2 : (stOf ds).awake x = true := z.2
      rw [g.sa] at z2
      exact hn (of_decide_eq_true z2)), if_neg (fun z => nFW z.1), if_neg (fun z => nFW z.1)])
theorem Gen.wait (g : Gen many as ps hold ds) (ht : t ∈ as) (hp : ¬ t ∈ ps) (hx : x ∈ as) (hn : x ≠ t) : Gen many as (ps ++ [x]) hold (ds ++ [(t, W.wait, x)]) where
  bnd := g.bnd
  sub := fun y hy => by
    rcases List.mem_append.mp hy with q | q
    · exact g.sub y q
    · have : y = x := by simpa using q
      subst this
      exact hx
  live := ⟨t, ht, fun z => by
    rcases List.mem_append.mp z with q | q
    · exact hp q
    · exact hn (by simpa using q : t = x).symm⟩
  sa := fun n => by
    rw [stOf_snoc]
    show ((stOf ds).awake n || decide (W.wait = W.fork ∧ n = x)) = _
    rw [orF (fun z => nFW z.1.symm), g.sa]
  sg := fun n => by
    rw [stOf_snoc]
    show ((stOf ds).gone n || decide (W.wait = W.wait ∧ n = x)) = _
    rw [g.sg, ← Bool.decide_or]
    exact decide_eq_decide.mpr (by simp)
  sh := fun n => by
    rw [stOf_snoc]
    show (if n = x ∧ W.wait = W.take then some t else if n = x ∧ W.wait = W.give then none else (stOf ds).hold n) = _
    rw [if_neg (fun z => nTW z.2.symm), if_neg (fun z => nGW z.2.symm), g.sh]
  fa := g.step ht hp (mem_words (by simp)) (g.bnd x hx).1 (fun _ => (g.bnd x hx).2) (by
    unfold woF
    rw [if_neg (fun z => nTW z.1.symm), if_neg (fun z => nGW z.1.symm), if_neg (fun z => nFW z.1.symm), if_neg (fun z => by
      have z2 : (stOf ds).awake x = false := z.2
      rw [g.sa] at z2
      exact (of_decide_eq_false z2) hx), if_neg (fun z => hn z.2)])
theorem Gen.take (g : Gen many as ps hold ds) (ht : t ∈ as) (hp : ¬ t ∈ ps) (hx : 0 ≤ x) (hn : hold x = none) : Gen many as ps (fun n => if n = x then some t else hold n) (ds ++ [(t, W.take, x)]) where
  bnd := g.bnd
  sub := g.sub
  live := g.live
  sa := fun n => by
    rw [stOf_snoc]
    show ((stOf ds).awake n || decide (W.take = W.fork ∧ n = x)) = _
    rw [orF (fun z => nTF z.1), g.sa]
  sg := fun n => by
    rw [stOf_snoc]
    show ((stOf ds).gone n || decide (W.take = W.wait ∧ n = x)) = _
    rw [orF (fun z => nTW z.1), g.sg]
  sh := fun n => by
    rw [stOf_snoc]
    show (if n = x ∧ W.take = W.take then some t else if n = x ∧ W.take = W.give then none else (stOf ds).hold n) = _
    by_cases e : n = x
    · rw [if_pos ⟨e, rfl⟩, if_pos e]
    · rw [if_neg (fun z => e z.1), if_neg (fun z => e z.1), if_neg e, g.sh]
  fa := g.step ht hp (mem_words (by simp)) hx (fun z => z.elim (fun q => absurd q nTF) fun q => absurd q nTW) (by
    unfold woF
    rw [if_neg (fun z => by
      have z2 : ((stOf ds).hold x).isSome = true := z.2
      rw [g.sh, hn] at z2
      cases z2), if_neg (fun z => nTG z.1), if_neg (fun z => nTF z.1), if_neg (fun z => nTW z.1), if_neg (fun z => nTW z.1)])
theorem Gen.give (g : Gen many as ps hold ds) (ht : t ∈ as) (hp : ¬ t ∈ ps) (hx : 0 ≤ x) (hn : hold x = some t) : Gen many as ps (fun n => if n = x then none else hold n) (ds ++ [(t, W.give, x)]) where
  bnd := g.bnd
  sub := g.sub
  live := g.live
  sa := fun n => by
    rw [stOf_snoc]
    show ((stOf ds).awake n || decide (W.give = W.fork ∧ n = x)) = _
    rw [orF (fun z => nGF z.1), g.sa]
  sg := fun n => by
    rw [stOf_snoc]
    show ((stOf ds).gone n || decide (W.give = W.wait ∧ n = x)) = _
    rw [orF (fun z => nGW z.1), g.sg]
  sh := fun n => by
    rw [stOf_snoc]
    show (if n = x ∧ W.give = W.take then some t else if n = x ∧ W.give = W.give then none else (stOf ds).hold n) = _
    by_cases e : n = x
    · rw [if_neg (fun z => nTG z.2.symm), if_pos ⟨e, rfl⟩, if_pos e]
    · rw [if_neg (fun z => e z.1), if_neg (fun z => e z.1), if_neg e, g.sh]
  fa := g.step ht hp (mem_words (by simp)) hx (fun z => z.elim (fun q => absurd q nGF) fun q => absurd q nGW) (by
    unfold woF
    rw [if_neg (fun z => nTG z.1.symm), if_neg (fun z => z.2 (by
      show (stOf ds).hold x = some t
      rw [g.sh, hn])), if_neg (fun z => nGF z.1), if_neg (fun z => nGW z.1), if_neg (fun z => nGW z.1)])
theorem Gen.rw (g : Gen many as ps hold ds) (ht : t ∈ as) (hp : ¬ t ∈ ps) (hx : 0 ≤ x) (hw : w = W.read ∨ w = W.write) : Gen many as ps hold (ds ++ [(t, w, x)]) := by
  have h1 : w ≠ W.take := by rcases hw with rfl | rfl; exact nRT; exact nWT
  have h2 : w ≠ W.give := by rcases hw with rfl | rfl; exact nRG; exact nWG
  have h3 : w ≠ W.fork := by rcases hw with rfl | rfl; exact nRF; exact nWF
  have h4 : w ≠ W.wait := by rcases hw with rfl | rfl; exact nRW; exact nWW
  refine ⟨g.bnd, g.sub, g.live, fun n => ?_, fun n => ?_, fun n => ?_, ?_⟩
  · rw [stOf_snoc]
    show ((stOf ds).awake n || decide (w = W.fork ∧ n = x)) = _
    rw [orF (fun z => h3 z.1), g.sa]
  · rw [stOf_snoc]
    show ((stOf ds).gone n || decide (w = W.wait ∧ n = x)) = _
    rw [orF (fun z => h4 z.1), g.sg]
  · rw [stOf_snoc]
    show (if n = x ∧ w = W.take then some t else if n = x ∧ w = W.give then none else (stOf ds).hold n) = _
    rw [if_neg (fun z => h1 z.2), if_neg (fun z => h2 z.2), g.sh]
  · refine g.step ht hp (mem_words (by rcases hw with h | h; exact .inl h; exact .inr (.inl h))) hx (fun z => z.elim (fun q => absurd q h3) fun q => absurd q h4) ?_
    unfold woF
    rw [if_neg (fun z => h1 z.1), if_neg (fun z => h2 z.1), if_neg (fun z => h3 z.1), if_neg (fun z => h4 z.1), if_neg (fun z => h4 z.1)]
end
end RC
namespace RC
open PySem L2
def oV : Option Str → V
  | none => .non
  | some s => .str s
def deedOf (H : Hp) (v : V) : Deed := match v with
  | .ref r => match H r with
    | some (.tup [.int t, .str w, .int x]) => (t, w, x)
    | _ => (0, "", 0)
  | _ => (0, "", 0)
def IsDeed (H : Hp) (v : V) : Prop := ∃ r t w x, v = .ref r ∧ H r = some (.tup [.int t, .str w, .int x])
theorem deedOf_ref {H : Hp} {r : Addr} {t x : Int} {w : Str} (h : H r = some (.tup [.int t, .str w, .int x])) : deedOf H (.ref r) = (t, w, x) := by
  unfold deedOf
  dsimp only
  rw [h]
theorem IsDeed.same {H H' : Hp} {v : V} (s : Same H H') (h : IsDeed H v) : IsDeed H' v ∧ deedOf H' v = deedOf H v := by
  obtain ⟨r, t, w, x, rfl, e⟩ := h
  exact ⟨⟨r, t, w, x, rfl, s _ _ e⟩, by rw [deedOf_ref e, deedOf_ref (s _ _ e)]⟩
structure Deeds (H : Hp) (xs : List V) (ds : List Deed) : Prop where
  all : ∀ v ∈ xs, IsDeed H v
  eq : xs.map (deedOf H) = ds
theorem Deeds.same {H H' : Hp} {xs : List V} {ds : List Deed} (s : Same H H') (h : Deeds H xs ds) : Deeds H' xs ds := by
  refine ⟨fun v hv => (IsDeed.same s (h.all v hv)).1, ?_⟩
  rw [← h.eq]
  exact List.map_congr_left fun v hv => (IsDeed.same s (h.all v hv)).2
theorem Deeds.nil {H : Hp} : Deeds H [] [] := ⟨fun v hv => (by cases hv), rfl⟩
theorem Deeds.snoc {H : Hp} {xs : List V} {ds : List Deed} {v : V} {d : Deed} (h : Deeds H xs ds) (hv : IsDeed H v) (e : deedOf H v = d) : Deeds H (xs ++ [v]) (ds ++ [d]) := by
  refine ⟨fun u hu => ?_, by rw [List.map_append, h.eq, ← e]; rfl⟩
  rcases List.mem_append.mp hu with q | q
  · exact h.all u q
  · have : u = v := by simpa using q
    subst this
    exact hv
theorem Deeds.len {H : Hp} {xs : List V} {ds : List Deed} (h : Deeds H xs ds) : xs.length = ds.length := by rw [← h.eq, List.length_map]
theorem Deeds.get {H : Hp} {xs : List V} {ds : List Deed} {i : Nat} {v : V} (h : Deeds H xs ds) (e : xs[i]? = some v) : ∃ r t w x, v = .ref r ∧ H r = some (.tup [.int t, .str w, .int x]) ∧ ds[i]? = some (t, w, x) := by
  obtain ⟨r, t, w, x, rfl, hr⟩ := h.all v (List.mem_of_getElem? e)
  refine ⟨r, t, w, x, rfl, hr, ?_⟩
  rw [← h.eq, List.getElem?_map, e]
  show some (deedOf H (.ref r)) = _
  rw [deedOf_ref hr]
theorem Deeds.at {H : Hp} {xs : List V} {ds : List Deed} {i : Nat} {d : Deed} (h : Deeds H xs ds) (e : ds[i]? = some d) : ∃ r, xs[i]? = some (.ref r) ∧ H r = some (.tup [.int d.1, .str d.2.1, .int d.2.2]) := by
  have hi : i < xs.length := by rw [h.len]; exact (List.getElem?_eq_some_iff.mp e).1
  obtain ⟨r, t, w, x, e1, e2, e3⟩ := h.get (i := i) (v := xs[i]) (by simp [hi])
  rw [e] at e3
  cases e3
  exact ⟨r, by rw [← e1]; simp [hi], e2⟩
theorem Deeds.append {H : Hp} {xs ys : List V} {ds es : List Deed} (h : Deeds H xs ds) (k : Deeds H ys es) : Deeds H (xs ++ ys) (ds ++ es) :=
  ⟨fun v hv => (List.mem_append.mp hv).elim (h.all v) (k.all v), by rw [List.map_append, h.eq, k.eq]⟩
def Told (H : Hp) (v : V) : Option (Nat × Str) → Prop
  | none => v = .non
  | some (i, w) => ∃ p, v = .ref p ∧ H p = some (.tup [.int (i : Int), .str w])
theorem valV_drop {κ : Type} [DecidableEq κ] (k j : κ) : ∀ kvs : List (κ × V), valV (dropK kvs k) j = if j = k then none else valV kvs j
  | [] => by
    show valV [] j = _
    rw [valV_nil]
    split <;> rfl
  | p :: r => by
    have ih := valV_drop k j r
    by_cases h : p.1 = k
    · rw [dropK_pos h, ih]
      by_cases e : j = k
      · rw [if_pos e, if_pos e]
      · rw [if_neg e, if_neg e, valV_neg (fun z => e (z.symm.trans h))]
    · rw [dropK_neg h]
      by_cases e : p.1 = j
      · rw [valV_pos e, valV_pos e, if_neg (fun z => h (e.trans z))]
      · rw [valV_neg e, valV_neg e, ih]
theorem inl_inj {a b : Int} : ((Sum.inl a : Key) = Sum.inl b) ↔ a = b := ⟨fun h => Sum.inl.inj h, fun h => by rw [h]⟩
end RC
namespace L2
open PySem
def PuT (tt : TT) (σ : St) (H : Hp) (b : Bool) : Prop := ∀ Qt : Bool → Hp → Prop, Qt b H → tt σ H Qt
section
variable {tt tA tB' : TT} {σ : St} {H : Hp} {a b : Bool} {D : Ends} {v : V} {rest : TS}
theorem PuT.and (h1 : PuT tA σ H a) (h2 : a = true → PuT tB' σ H b) : PuT (tAnd tA tB') σ H (a && b) := fun Qt q => h1 _ (by
  cases a with
  | true => exact iteT (h2 rfl _ q)
  | false => exact iteF q)
theorem PuT.or (h1 : PuT tA σ H a) (h2 : a = false → PuT tB' σ H b) : PuT (tOr tA tB') σ H (a || b) := fun Qt q => h1 _ (by
  cases a with
  | true => exact iteT q
  | false => exact iteF (h2 rfl _ q))
theorem PuT.not (h1 : PuT tA σ H a) : PuT (tNot tA) σ H (!a) := fun Qt q => h1 _ q
theorem PuT.iff (h : PuT tt σ H a) {c : Prop} [Decidable c] (e : a = true ↔ c) : PuT tt σ H (decide c) := by
  have : a = decide c := by rw [Bool.eq_iff_iff, decide_eq_true_iff]; exact e
  exact this ▸ h
theorem PuT.ret {c : Prop} [Decidable c] (h : PuT tt σ H (decide c)) (h1 : c → D.rt v H) (h2 : ¬ c → rest D σ H) : tSeq (tIfS tt (tRet (tC v)) tNext) rest D σ H := h _ (by
  by_cases z : c
  · rw [decide_eq_true z]; exact iteT (h1 z)
  · rw [decide_eq_false z]; exact iteF (h2 z))
theorem PuT.ifs {c : Prop} [Decidable c] {body : TS} (h : PuT tt σ H (decide c)) (h1 : c → body { D with nx := rest D } σ H) (h2 : ¬ c → rest D σ H) : tSeq (tIfS tt body tNext) rest D σ H := h _ (by
  by_cases z : c
  · rw [decide_eq_true z]; exact iteT (h1 z)
  · rw [decide_eq_false z]; exact iteF (h2 z))
theorem PuT.if1 {c : Prop} [Decidable c] {body els : TS} (h : PuT tt σ H (decide c)) (h1 : c → body D σ H) (h2 : ¬ c → els D σ H) : tIfS tt body els D σ H := h _ (by
  by_cases z : c
  · rw [decide_eq_true z]; exact iteT (h1 z)
  · rw [decide_eq_false z]; exact iteF (h2 z))
theorem dec_str' {x y : Str} : decide (V.str x = V.str y) = decide (x = y) := by rw [Bool.eq_iff_iff]; simp
theorem dec_int' {x y : Int} : decide (V.int x = V.int y) = decide (x = y) := by rw [Bool.eq_iff_iff]; simp
end
end L2
namespace K
open PySem L2 RC
def top (i : Nat) : Stmt := PySem.Challenge.pw_racewise_k19_whole_knots_show_a_ring.main.body.getD i (.Pass ⟨0, 0, 0, 0⟩)
abbrev sForm : Stmt := top 8
abbrev sInit : Stmt := inClass (top 9) 0
abbrev sTh : Stmt := inClass (top 9) 1
abbrev sWo : Stmt := inClass (top 9) 2
abbrev sFol : Stmt := inClass (top 9) 3
abbrev sOf : Stmt := top 10
abbrev sFault : Stmt := top 11
abbrev sRow : Stmt := inClass (top 12) 0
abbrev sDeed : Stmt := inClass (top 12) 1
abbrev sRDs : Stmt := inClass (top 12) 2
abbrev s_held : Stmt := top 14
abbrev s_in_common : Stmt := top 15
abbrev s_takes : Stmt := top 17
abbrev s_can_follow : Stmt := top 18
abbrev s_longer : Stmt := top 19
abbrev s_closes : Stmt := top 20
abbrev s_ring : Stmt := top 21
abbrev s__law_cell : Stmt := top 23
abbrev sWhole : Stmt := top 24
abbrev s__law_lock_deed : Stmt := top 25
abbrev s__law_thread_deed : Stmt := top 26
abbrev sDeeds : Stmt := top 27
abbrev s__law_blocks : Stmt := top 28
abbrev s__law_locks : Stmt := top 29
abbrev s__law_ringed : Stmt := top 30
abbrev s__law_next : Stmt := top 31
abbrev s__law_can : Stmt := top 32
abbrev s__law_knotted : Stmt := top 33
abbrev s__law_comes_round : Stmt := top 34
abbrev s__law_picks : Stmt := top 35
abbrev sLaw : Stmt := top 36
end K
namespace L2
open PySem
def PuS (tt : TT) (σ : St) (H : Hp) (b : Bool) : Prop := ∀ Qt : Bool → Hp → Prop, (∀ H', Same H H' → Qt b H') → tt σ H Qt
section
variable {tt tA tB' : TT} {σ : St} {H : Hp} {a b : Bool} {D : Ends} {v : V} {rest : TS}
theorem PuT.pus (h : PuT tt σ H b) : PuS tt σ H b := fun Qt q => h Qt (q H (Same.refl H))
theorem PuS.and (h1 : PuS tA σ H a) (h2 : a = true → ∀ H', Same H H' → PuS tB' σ H' b) : PuS (tAnd tA tB') σ H (a && b) := fun Qt q => h1 _ fun H' s => (by
  cases a with
  | true => exact iteT (h2 rfl H' s _ fun H'' s' => q H'' (s.trans s'))
  | false => exact iteF (q H' s))
theorem PuS.or (h1 : PuS tA σ H a) (h2 : a = false → ∀ H', Same H H' → PuS tB' σ H' b) : PuS (tOr tA tB') σ H (a || b) := fun Qt q => h1 _ fun H' s => (by
  cases a with
  | true => exact iteT (q H' s)
  | false => exact iteF (h2 rfl H' s _ fun H'' s' => q H'' (s.trans s')))
theorem PuS.not (h1 : PuS tA σ H a) : PuS (tNot tA) σ H (!a) := fun Qt q => h1 _ q
theorem PuS.iff (h : PuS tt σ H a) {c : Prop} [Decidable c] (e : a = true ↔ c) : PuS tt σ H (decide c) := by
  have : a = decide c := by rw [Bool.eq_iff_iff, decide_eq_true_iff]; exact e
  exact this ▸ h
theorem PuS.ifs {c : Prop} [Decidable c] {body : TS} (h : PuS tt σ H (decide c)) (h1 : ∀ H', Same H H' → c → body { D with nx := rest D } σ H') (h2 : ∀ H', Same H H' → ¬ c → rest D σ H') : tSeq (tIfS tt body tNext) rest D σ H := h _ fun H' s => (by
  by_cases z : c
  · rw [decide_eq_true z]; exact iteT (h1 H' s z)
  · rw [decide_eq_false z]; exact iteF (h2 H' s z))
theorem PuS.if1 {c : Prop} [Decidable c] {body els : TS} (h : PuS tt σ H (decide c)) (h1 : ∀ H', Same H H' → c → body D σ H') (h2 : ∀ H', Same H H' → ¬ c → els D σ H') : tIfS tt body els D σ H := h _ fun H' s => (by
  by_cases z : c
  · rw [decide_eq_true z]; exact iteT (h1 H' s z)
  · rw [decide_eq_false z]; exact iteF (h2 H' s z))
end
theorem CompScope.of {X : Cx} {N : List Str} {nt : Nat} {fr : List Nat} {scope osc : Scope} {XN : List Str} (eN : X.N = XN) (eO : X.env.scope = osc) (k : scope.kind = .function) (c : ∀ y ∈ scope.names, y.2 ≠ .cell) (n : ∀ y ∈ scope.names, y.2 = .local → scope.names.lookup y.1 = some .local)
    (f : ∀ y ∈ scope.names, y.2 = .free → osc.names.lookup y.1 = some .cell) (l : N.length = nt + fr.length) (t : tieOk XN N scope.names nt fr = true) : CompScope X N nt fr scope :=
  ⟨k, c, n, fun y hy e => by show X.env.scope.names.lookup y.1 = _; rw [eO]; exact f y hy e, l, by rw [eN]; exact t⟩
end L2
namespace RC
open PySem L2
def TSame (H H' : Hp) : Prop := ∀ b ys, H b = some (.tup ys) → H' b = some (.tup ys)
theorem Deeds.tsame {H H' : Hp} {xs : List V} {ds : List Deed} (s : TSame H H') (h : Deeds H xs ds) : Deeds H' xs ds := by
  have key : ∀ v ∈ xs, IsDeed H' v ∧ deedOf H' v = deedOf H v := fun v hv => by
    obtain ⟨r, t, w, x, rfl, e⟩ := h.all v hv
    exact ⟨⟨r, t, w, x, rfl, s _ _ e⟩, by rw [deedOf_ref e, deedOf_ref (s _ _ e)]⟩
  refine ⟨fun v hv => (key v hv).1, ?_⟩
  rw [← h.eq]
  exact List.map_congr_left fun v hv => (key v hv).2
theorem inV_ints (a : Int) : ∀ ps : List Int, inV (.int a) (ps.map V.int) = decide (a ∈ ps)
  | [] => by
    rw [decide_eq_false (by intro z; cases z)]
    rfl
  | v :: r => by
    have ih := inV_ints a r
    unfold inV at ih ⊢
    rw [List.map_cons, List.any_cons, ih]
    show ((v == a) || decide (a ∈ r)) = _
    rw [Bool.eq_iff_iff]
    simp only [Bool.or_eq_true, beq_iff_eq, decide_eq_true_eq, List.mem_cons]
    constructor
    · rintro (z | z)
      · exact .inl z.symm
      · exact .inr z
    · rintro (z | z)
      · exact .inl z.symm
      · exact .inr z
theorem ints_flat (ns : List Int) : (ns.map V.int).all flatV = true := by
  rw [List.all_map, List.all_eq_true]
  intro x _
  rfl
theorem datas_ints {K : PySem.W.Frag} {H : Hp} : ∀ ns : List Int, DatAs K H (ns.map V.int) (ns.map PyData.int)
  | [] => .nil
  | n :: r => .cons (.int n) (datas_ints r)
theorem lay_ints : ∀ ns : List Int, PyData.canLayAll0 (ns.map PyData.int) = true
  | [] => by simp [PyData.canLayAll0]
  | n :: r => by
    rw [List.map_cons, PyData.canLayAll0, lay_ints r]
    simp [PyData.canLay0]
theorem depth_ints : ∀ ns : List Int, PyData.depthAll (ns.map PyData.int) = 0
  | [] => by simp [PyData.depthAll]
  | n :: r => by
    rw [List.map_cons, PyData.depthAll, depth_ints r]
    simp [PyData.depth]
theorem shaped_ints (ns : List Int) : PySem.SeqAt.shaped (.list (ns.map PyData.int)) = true := by
  unfold PySem.SeqAt.shaped
  rw [PyData.canLay0, lay_ints, PyData.depth, depth_ints]
  rfl
theorem eqv_nil (ds : List PyData) : PyData.eqv (.list ds) (.list []) = ds.isEmpty := by
  rw [PyData.eqv]
  cases ds with
  | nil => simp [PyData.eqvAll]
  | cons d r => simp [PyData.eqvAll]
theorem pus_neNil {K : PySem.W.Frag} {σ : St} {H : Hp} {k : Nat} {a : Addr} {ns : List Int} (e : σ[k]? = some (some (.ref a))) (h : SqL K H a (ns.map V.int)) : PuS (tTest (tOp (rEqD K true) (tVar k) (tLst tNil))) σ H (decide (ns ≠ [])) := fun Qt q =>
  ⟨_, e, Nat.zero_le _, fun p hp => ⟨_, _, .lst ((same_new hp).seq h) (datas_ints ns), .lst (SqL.of upd_same) (datas_ints []), shaped_ints ns, shaped_ints [], _, rfl, by
    have z : (if true = true then !PyData.eqv (.list (ns.map PyData.int)) (.list (([] : List Int).map PyData.int)) else PyData.eqv (.list (ns.map PyData.int)) (.list (([] : List Int).map PyData.int))) = decide (ns ≠ []) := by
      rw [if_pos rfl, List.map_nil, eqv_nil]
      cases ns with
      | nil => rfl
      | cons n r => rfl
    rw [z]
    exact q _ (same_new hp)⟩⟩
end RC
namespace K
open PySem L2 RC
structure Txt (K : PySem.W.Frag) (mg : Str → Option Value) (C aW aT : Addr) : Prop where
  cl : Cls K C
  nA : NoAttr K C "awake"
  nG : NoAttr K C "gone"
  nH : NoAttr K C "holders"
  mgC : mg "Past" = some (.ref C)
  mgW : mg "WORDS" = some (.ref aW)
  mgT : mg "WORDS_OF_THREADS" = some (.ref aT)
  tW : ∀ H : Hp, SqT K H aW [.str "read", .str "write", .str "take", .str "give", .str "fork", .str "wait"]
  tT : ∀ H : Hp, SqT K H aT [.str "fork", .str "wait"]
  len : mg "len" = none
  enu : mg "enumerate" = none
  rng : mg "range" = none
  isi : mg "isinstance" = none
  int : mg "int" = none
  bool : mg "bool" = none
  str : mg "str" = none
  tup : mg "tuple" = none
  lst : mg "list" = none
section
variable {P : Program} {w : World} {K : PySem.W.Frag} {mg : Str → Option Value} {base : Heap}
theorem inV_strs (w : Str) : ∀ ws : List Str, inV (.str w) (ws.map V.str) = decide (w ∈ ws)
  | [] => by
    rw [decide_eq_false (by intro z; cases z)]
    rfl
  | v :: r => by
    have ih := inV_strs w r
    unfold inV at ih ⊢
    rw [List.map_cons, List.any_cons, ih]
    show ((v == w) || decide (w ∈ r)) = _
    rw [Bool.eq_iff_iff]
    simp only [Bool.or_eq_true, beq_iff_eq, decide_eq_true_eq, List.mem_cons]
    constructor
    · rintro (z | z)
      · exact .inl z.symm
      · exact .inr z
    · rintro (z | z)
      · exact .inl z.symm
      · exact .inr z
theorem inV_words (w : Str) : inV (.str w) [.str "read", .str "write", .str "take", .str "give", .str "fork", .str "wait"] = decide (w ∈ words) := inV_strs w words
theorem inV_fw (w : Str) : inV (.str w) [.str "fork", .str "wait"] = decide (w = W.fork ∨ w = W.wait) := by
  refine (inV_strs w [W.fork, W.wait]).trans (decide_eq_decide.mpr ?_)
  rw [List.mem_cons, List.mem_singleton]
def spForm : Sp := fun vs H Q _ => ∃ m t w x, vs = [.int m, .int t, .str w, .int x] ∧ Q (oV (form m (t, w, x))) H
theorem scForm : FnScope ["many", "thread", "word", "thing"] ["many", "thread", "word", "thing"] (defScope sForm) := ⟨rfl, rfl, rfl, by decide +kernel, rfl, by decide +kernel, by decide +kernel⟩
theorem ok_form {f C aW aT : Addr} {fd : FuncData} (F : Fun K "fault_of_form" "fault_of_form" sForm f fd) (T : Txt K mg C aW aT) : FnOk P w K mg base CX0 1 f fd ["many", "thread", "word", "thing"] spForm := by
  refine F.ok scForm (fun vs H Q E h => ?_) (fun cdv A outer s H vs Q E hr h => ?_)
  · obtain ⟨m, t, w, x, rfl, _⟩ := h
    rfl
  · obtain ⟨m, t, w, x, rfl, k⟩ := h
    refine ⟨_, pss_cons (ps_if (pt_not (pt_chain op_le op_lt pe_int (pv 1) (pv 0))) (pss_one (ps_ret pe_str)) pss_nil)
      (pss_cons (ps_if (pt_cmpR op_notIn_seq (pv 2) (pe_glob rfl T.mgW (v := .ref aW) rfl) (by with_unfolding_all rfl)) (pss_one (ps_ret pe_str)) pss_nil)
      (pss_cons (ps_if (PW.pt (pw_or (pt_cmpR op_lt (pv 3) pe_int (nomark _)) (pw_or1 (PW.pt (pw_and (pt_cmpR op_in_seq (pv 2) (pe_glob rfl T.mgT (v := .ref aT) rfl) (by with_unfolding_all rfl)) (pw_and1 (pt_cmpR op_ge (pv 3) (pv 0) (nomark _)))))))) (pss_one (ps_ret pe_str)) pss_nil)
      (pss_one (ps_ret pe_non)))), ?_⟩
    unfold form at k
    dsimp only at k
    -- the rest, once the thread is good
    have go2 : 0 ≤ t ∧ t < m → Q (oV (if ¬ w ∈ words then some "word" else if x < 0 ∨ ((w = W.fork ∨ w = W.wait) ∧ m ≤ x) then some "thing" else none)) H := fun ht => by
      rw [if_neg (fun z => z ht)] at k
      exact k
    have bad : ¬ (0 ≤ t ∧ t < m) → Q (.str "thread") H := fun ht => by
      rw [if_pos ht] at k
      exact k
    clear k
    refine ⟨_, rfl, _, _, rfl, rfl, _, rfl, ?_⟩
    refine ite2 (fun h1 => ?_) (fun h1 => ?_)
    · have h1 : 0 ≤ t := of_decide_eq_true h1
      refine ⟨_, rfl, _, _, rfl, rfl, _, rfl, ?_⟩
      by_cases h2 : t < m
      · refine iteNS h2 ?_
        have k := go2 ⟨h1, h2⟩
        refine ⟨_, rfl, _, _, rfl, .inr (T.tW H), rfl, rfl, _, rfl, ?_⟩
        show if (!inV (.str w) _) = true then _ else _
        rw [inV_words]
        by_cases h3 : w ∈ words
        · refine iteNS h3 ?_
          rw [if_neg (fun z => z h3)] at k
          refine ⟨_, rfl, _, _, rfl, rfl, _, rfl, ?_⟩
          refine ite2 (fun h4 => ?_) (fun h4 => ?_)
          · have h4 : x < 0 := of_decide_eq_true h4
            rw [if_pos (.inl h4)] at k
            exact iteT k
          · have h4 : ¬ x < 0 := fun z => h4 (decide_eq_true z)
            refine ⟨_, rfl, _, _, rfl, .inr (T.tT H), rfl, rfl, _, rfl, ?_⟩
            show if (inV (.str w) _) = true then _ else _
            rw [inV_fw]
            refine ite2 (fun h5 => ?_) (fun h5 => ?_)
            · have h5 := of_decide_eq_true h5
              refine ⟨_, rfl, _, rfl, _, _, rfl, rfl, _, rfl, ?_⟩
              refine ite2 (fun h6 => ?_) (fun h6 => ?_)
              · rw [if_pos (.inr ⟨h5, of_decide_eq_true h6⟩)] at k
                exact k
              · rw [if_neg (fun z => z.elim h4 fun z => h6 (decide_eq_true z.2))] at k
                exact k
            · rw [if_neg (fun z => z.elim h4 fun z => h5 (decide_eq_true z.1))] at k
              exact iteF k
        · rw [if_pos h3] at k
          rw [decide_eq_false h3]
          exact iteT k
      · rw [decide_eq_false h2]
        exact iteT (bad fun z => h2 z.2)
    · refine ⟨_, rfl, ?_⟩
      exact iteT (bad fun z => h1 (decide_eq_true z.1))
end
end K
namespace K
open PySem L2 RC
theorem n_ag : ¬ (("awake" : Str) = "gone") := by decide +kernel
theorem n_ah : ¬ (("awake" : Str) = "holders") := by decide +kernel
theorem n_gh : ¬ (("gone" : Str) = "holders") := by decide +kernel
def flds (a g h : Addr) : List (Str × V) := putF "holders" (.ref h) (putF "gone" (.ref g) (putF "awake" (.ref a) []))
theorem flds_a (a g h : Addr) : (flds a g h).lookup ("awake" : Str) = some (.ref a) := by
  unfold flds
  rw [lookup_putF, if_neg n_ah, lookup_putF, if_neg n_ag, lookup_putF, if_pos rfl]
theorem flds_g (a g h : Addr) : (flds a g h).lookup ("gone" : Str) = some (.ref g) := by
  unfold flds
  rw [lookup_putF, if_neg n_gh, lookup_putF, if_pos rfl]
theorem flds_h (a g h : Addr) : (flds a g h).lookup ("holders" : Str) = some (.ref h) := by
  unfold flds
  rw [lookup_putF, if_pos rfl]
theorem flds_no (a g h : Addr) {m : Str} (h1 : ¬ m = "holders") (h2 : ¬ m = "gone") (h3 : ¬ m = "awake") : (flds a g h).lookup m = none := by
  unfold flds
  rw [lookup_putF, if_neg h1, lookup_putF, if_neg h2, lookup_putF, if_neg h3]
  all_goals rfl
structure PastAt (C : Addr) (H : Hp) (p a g h : Addr) (st : Pst) (n : Nat) : Prop where
  ob : ∃ dx, H p = some (.ins C dx (flds a g h))
  da : ∃ kA : List (Key × V), H a = some (.dK kA) ∧ kA.length ≤ n + 1 ∧ ∀ k : Int, (valV kA (Sum.inl k)).isSome = st.awake k
  dg : ∃ kG : List (Key × V), H g = some (.dK kG) ∧ kG.length ≤ n ∧ ∀ k : Int, (valV kG (Sum.inl k)).isSome = st.gone k
  dh : ∃ kH : List (Key × V), H h = some (.dK kH) ∧ kH.length ≤ n ∧ ∀ k : Int, valV kH (Sum.inl k) = (st.hold k).map V.int
  ag : a ≠ g
  ah : a ≠ h
  gh : g ≠ h
theorem PastAt.keep {C : Addr} {H H' : Hp} {p a g h : Addr} {st : Pst} {n : Nat} (S : PastAt C H p a g h st n) (s : Same H H') : PastAt C H' p a g h st n := by
  obtain ⟨⟨dx, e⟩, ⟨kA, eA, lA, vA⟩, ⟨kG, eG, lG, vG⟩, ⟨kH, eH, lH, vH⟩, n1, n2, n3⟩ := S
  exact ⟨⟨dx, s _ _ e⟩, ⟨kA, s _ _ eA, lA, vA⟩, ⟨kG, s _ _ eG, lG, vG⟩, ⟨kH, s _ _ eH, lH, vH⟩, n1, n2, n3⟩
def spInit (C : Addr) : Sp := fun vs H Q _ => ∃ (p dx : Addr), vs = [.ref p] ∧ H p = some (.ins C dx []) ∧ ∀ (a g h : Addr) (H' : Hp), H a = none → H g = none → H h = none → PastAt C H' p a g h pst0 0 → (∀ b o, H b = some o → b ≠ p → H' b = some o) → Q .non H'
def spTh (C : Addr) : Sp := fun vs H Q _ => ∃ (p a g h : Addr) (st : Pst) (n : Nat) (t : Int), vs = [.ref p, .int t] ∧ PastAt C H p a g h st n ∧ Q (oV (thF st t)) H
def spWo (C : Addr) : Sp := fun vs H Q _ => ∃ (p a g h : Addr) (st : Pst) (n : Nat) (t : Int) (w : Str) (x : Int), vs = [.ref p, .int t, .str w, .int x] ∧ PastAt C H p a g h st n ∧ Q (oV (woF st (t, w, x))) H
def spFol (C : Addr) : Sp := fun vs H Q _ => ∃ (p a g h : Addr) (st : Pst) (n : Nat) (t : Int) (w : Str) (x : Int), vs = [.ref p, .int t, .str w, .int x] ∧ PastAt C H p a g h st n ∧ n ≤ 200 ∧ (w = W.give → st.hold x ≠ none) ∧
  ∀ H', PastAt C H' p a g h (follow st (t, w, x)) (n + 1) → (∀ b o, H b = some o → b ≠ a → b ≠ g → b ≠ h → H' b = some o) → Q .non H'
section
variable {P : Program} {w : World} {K : PySem.W.Frag} {mg : Str → Option Value} {base : Heap}
theorem scInit : FnScope ["self"] ["self"] (defScope sInit) := ⟨rfl, rfl, rfl, by decide +kernel, rfl, by decide +kernel, by decide +kernel⟩
theorem ok_init {f C aW aT : Addr} {fd : FuncData} (F : Fun K "__init__" "Past.__init__" sInit f fd) (T : Txt K mg C aW aT) : FnOk P w K mg base CX0 1 f fd ["self"] (spInit C) := by
  refine F.ok scInit (fun vs H Q E h => ?_) (fun cdv A outer s H vs Q E hr h => ?_)
  · obtain ⟨p, dx, rfl, _⟩ := h
    rfl
  · obtain ⟨p, dx, rfl, hp, k⟩ := h
    refine ⟨_, pss_cons (ps_fld (pv 0) (pe_disp (pps_cons pe_int pe_bl pps_nil) rfl rfl (List.cons_ne_nil _ _) (by decide)) rfl) (pss_cons (ps_fld (pv 0) pe_dnewK rfl) (pss_one (ps_fld (pv 0) pe_dnewK rfl))), ?_⟩
    intro a ha
    have npa : p ≠ a := ne_of_none hp ha
    refine ⟨upd_same, [(Sum.inl 0, .bl true)], rfl, by decide, ?_⟩
    refine ⟨_, rfl, p, C, dx, [], rfl, (by rw [upd_ne npa, upd_ne npa]; exact hp), T.cl, T.nA, (by show 0 < 1000; decide), ?_⟩
    intro g hg
    have hg0 : H g = none := by
      by_cases e1 : g = p
      · rw [e1, upd_same] at hg; cases hg
      · rw [upd_ne e1] at hg
        by_cases e2 : g = a
        · rw [e2, upd_same] at hg; cases hg
        · rw [upd_ne e2, upd_ne e2] at hg; exact hg
    have nga : g ≠ a := fun e => by
      rw [e, upd_ne npa.symm, upd_same] at hg; cases hg
    have npg : p ≠ g := ne_of_none hp hg0
    refine ⟨_, rfl, p, C, dx, _, rfl, (by rw [upd_ne npg, upd_same]), T.cl, T.nG, (by show 1 < 1000; decide), ?_⟩
    intro h hh
    have hh0 : H h = none := by
      by_cases e1 : h = p
      · rw [e1, upd_same] at hh; cases hh
      · rw [upd_ne e1] at hh
        by_cases e2 : h = g
        · rw [e2, upd_same] at hh; cases hh
        · rw [upd_ne e2, upd_ne e1] at hh
          by_cases e3 : h = a
          · rw [e3, upd_same] at hh; cases hh
          · rw [upd_ne e3, upd_ne e3] at hh; exact hh
    have nhg : h ≠ g := fun e => by
      rw [e, upd_ne npg.symm, upd_same] at hh; cases hh
    have nha : h ≠ a := fun e => by
      rw [e, upd_ne npa.symm, upd_ne nga.symm, upd_ne npa.symm, upd_same] at hh; cases hh
    have nph : p ≠ h := ne_of_none hp hh0
    refine ⟨_, rfl, p, C, dx, _, rfl, (by rw [upd_ne nph, upd_same]), T.cl, T.nH, (by show 2 < 1000; decide), ?_⟩
    refine k a g h _ ha hg0 hh0 ⟨⟨dx, upd_same⟩, ⟨[(Sum.inl 0, .bl true)], ?_, by decide, fun n => ?_⟩, ⟨[], ?_, by decide, fun n => rfl⟩, ⟨[], ?_, by decide, fun n => rfl⟩, nga.symm, nha.symm, nhg.symm⟩ fun b o e hb => ?_
    · rw [upd_ne npa.symm, upd_ne nha.symm, upd_ne npa.symm, upd_ne nga.symm, upd_ne npa.symm, upd_same]
      rfl
    · show (valV [((Sum.inl 0 : Key), V.bl true)] (Sum.inl n)).isSome = decide (n = 0)
      by_cases e : n = 0
      · subst e
        rfl
      · rw [valV_neg (fun z => e (inl_inj.mp z).symm), valV_nil, decide_eq_false e]
        rfl
    · rw [upd_ne npg.symm, upd_ne nhg.symm, upd_ne npg.symm, upd_same]
    · rw [upd_ne nph.symm, upd_same]
    · rw [upd_ne hb, upd_ne (ne_of_none e hh0), upd_ne hb, upd_ne (ne_of_none e hg0), upd_ne hb, upd_ne (ne_of_none e ha), upd_ne (ne_of_none e ha)]
      exact e
theorem scTh : FnScope ["self", "thread"] ["self", "thread"] (defScope sTh) := ⟨rfl, rfl, rfl, by decide +kernel, rfl, by decide +kernel, by decide +kernel⟩
theorem ok_th {f C aW aT : Addr} {fd : FuncData} (F : Fun K "fault_of_thread" "Past.fault_of_thread" sTh f fd) (T : Txt K mg C aW aT) : FnOk P w K mg base CX0 1 f fd ["self", "thread"] (spTh C) := by
  refine F.ok scTh (fun vs H Q E h => ?_) (fun cdv A outer s H vs Q E hr h => ?_)
  · obtain ⟨p, a, g, h, st, n, t, rfl, _⟩ := h
    rfl
  · obtain ⟨p, a, g, h, st, n, t, rfl, S, k⟩ := h
    have hu := hu_of hr
    obtain ⟨⟨dx, ob⟩, ⟨kA, eA, lA, vA⟩, ⟨kG, eG, lG, vG⟩, _⟩ := S
    refine ⟨_, pss_cons (ps_if (pt_cmp (pc_dnotin hu (pv 1) (pe_fld (pv 0) rfl))) (pss_one (ps_ret pe_str)) pss_nil)
      (pss_cons (ps_if (pt_cmp (pc_din hu (pv 1) (pe_fld (pv 0) rfl))) (pss_one (ps_ret pe_str)) pss_nil)
      (pss_one (ps_ret pe_non))), ?_⟩
    unfold thF at k
    refine ⟨_, rfl, _, rfl, p, C, dx, _, _, rfl, ob, T.cl, T.nA, flds_a _ _ _, a, _, rfl, DGet.k (k := Sum.inl t) eA, _, rfl, ?_⟩
    rw [vA t]
    cases e : st.awake t with
    | false =>
      rw [if_pos e] at k
      exact iteT k
    | true =>
      rw [if_neg (by rw [e]; decide)] at k
      refine iteF ?_
      refine ⟨_, rfl, _, rfl, p, C, dx, _, _, rfl, ob, T.cl, T.nG, flds_g _ _ _, g, _, rfl, DGet.k (k := Sum.inl t) eG, _, rfl, ?_⟩
      rw [vG t]
      cases e2 : st.gone t with
      | false =>
        rw [if_neg (by rw [e2]; decide)] at k
        exact iteF k
      | true =>
        rw [if_pos e2] at k
        exact iteT k
theorem scWo : FnScope ["self", "thread", "word", "thing"] ["self", "thread", "word", "thing"] (defScope sWo) := ⟨rfl, rfl, rfl, by decide +kernel, rfl, by decide +kernel, by decide +kernel⟩
theorem ok_wo {f C aW aT : Addr} {fd : FuncData} (F : Fun K "fault_of_word" "Past.fault_of_word" sWo f fd) (T : Txt K mg C aW aT) : FnOk P w K mg base CX0 1 f fd ["self", "thread", "word", "thing"] (spWo C) := by
  refine F.ok scWo (fun vs H Q E h => ?_) (fun cdv A outer s H vs Q E hr h => ?_)
  · obtain ⟨p, a, g, h, st, n, t, w, x, rfl, _⟩ := h
    rfl
  · obtain ⟨p, a, g, h, st, n, t, w, x, rfl, S, k⟩ := h
    have hu := hu_of hr
    obtain ⟨⟨dx, ob⟩, ⟨kA, eA, lA, vA⟩, ⟨kG, eG, lG, vG⟩, ⟨kH, eH, lH, vH⟩, _⟩ := S
    refine ⟨_, pss_cons (ps_if (PW.pt (pw_and (pt_cmpR op_eq (pv 2) pe_str (nomark _)) (pw_and1 (pt_cmp (pc_din hu (pv 3) (pe_fld (pv 0) rfl)))))) (pss_one (ps_ret pe_str)) pss_nil)
      (pss_cons (ps_if (PW.pt (pw_and (pt_cmpR op_eq (pv 2) pe_str (nomark _)) (pw_and1 (pt_cmpR op_ne (pe_dget1 hu (pe_fld (pv 0) rfl) (pv 3) ⟨rfl, rfl, rfl, rfl⟩) (pv 1) (nomark _))))) (pss_one (ps_ret pe_str)) pss_nil)
      (pss_cons (ps_if (PW.pt (pw_and (pt_cmpR op_eq (pv 2) pe_str (nomark _)) (pw_and1 (pt_cmp (pc_din hu (pv 3) (pe_fld (pv 0) rfl)))))) (pss_one (ps_ret pe_str)) pss_nil)
      (pss_cons (ps_if (PW.pt (pw_and (pt_cmpR op_eq (pv 2) pe_str (nomark _)) (pw_and1 (pt_cmp (pc_dnotin hu (pv 3) (pe_fld (pv 0) rfl)))))) (pss_one (ps_ret pe_str)) pss_nil)
      (pss_cons (ps_if (PW.pt (pw_and (pt_cmpR op_eq (pv 2) pe_str (nomark _)) (pw_and1 (pt_cmpR op_eq (pv 3) (pv 1) (nomark _))))) (pss_one (ps_ret pe_str)) pss_nil)
      (pss_one (ps_ret pe_non)))))), ?_⟩
    unfold woF at k
    dsimp only at k
    have hne : (!decide (((valV kH (Sum.inl x)).getD V.non) = V.int t)) = decide (st.hold x ≠ some t) := by
      rw [vH x, Bool.eq_iff_iff, decide_eq_true_iff]
      cases st.hold x with
      | none => simp
      | some i => simp
    have hsc : scal ((valV kH (Sum.inl x)).getD V.non) (V.int t) = true := by
      rw [vH x]
      cases st.hold x <;> rfl
    have wd : ∀ (l : Str) (Qt : Bool → Hp → Prop), Qt (decide (w = l)) H → Qt (decide (V.str w = V.str l)) H := fun l Qt q => by rw [dec_str']; exact q
    refine PuT.ret (c := w = W.take ∧ (st.hold x).isSome = true) ((PuT.and (a := decide (w = W.take)) (b := (st.hold x).isSome) (fun Qt q => ⟨_, rfl, rfl, _, rfl, wd _ Qt q⟩)
      (fun _ Qt q => ⟨_, rfl, _, rfl, p, C, dx, _, _, rfl, ob, T.cl, T.nH, flds_h _ _ _, h, _, rfl, DGet.k (k := Sum.inl x) eH, _, rfl, by rw [vH x, Option.isSome_map]; exact q⟩)).iff (by simp)) (fun c1 => ?_) (fun c1 => ?_)
    · rw [if_pos c1] at k
      exact k
    rw [if_neg c1] at k
    refine PuT.ret (c := w = W.give ∧ st.hold x ≠ some t) ((PuT.and (a := decide (w = W.give)) (b := decide (st.hold x ≠ some t)) (fun Qt q => ⟨_, rfl, rfl, _, rfl, wd _ Qt q⟩)
      (fun _ Qt q => ⟨_, rfl, p, C, dx, _, _, rfl, ob, T.cl, T.nH, flds_h _ _ _, h, rfl, .inl ⟨kH, .inl eH⟩, _, rfl, _, DGet.k (k := Sum.inl x) eH, _, rfl, hsc, _, rfl, by rw [hne]; exact q⟩)).iff (by simp)) (fun c2 => ?_) (fun c2 => ?_)
    · rw [if_pos c2] at k
      exact k
    rw [if_neg c2] at k
    refine PuT.ret (c := w = W.fork ∧ st.awake x = true) ((PuT.and (a := decide (w = W.fork)) (b := st.awake x) (fun Qt q => ⟨_, rfl, rfl, _, rfl, wd _ Qt q⟩)
      (fun _ Qt q => ⟨_, rfl, _, rfl, p, C, dx, _, _, rfl, ob, T.cl, T.nA, flds_a _ _ _, a, _, rfl, DGet.k (k := Sum.inl x) eA, _, rfl, by rw [vA x]; exact q⟩)).iff (by simp)) (fun c3 => ?_) (fun c3 => ?_)
    · rw [if_pos c3] at k
      exact k
    rw [if_neg c3] at k
    refine PuT.ret (c := w = W.wait ∧ st.awake x = false) ((PuT.and (a := decide (w = W.wait)) (b := !st.awake x) (fun Qt q => ⟨_, rfl, rfl, _, rfl, wd _ Qt q⟩)
      (fun _ Qt q => ⟨_, rfl, _, rfl, p, C, dx, _, _, rfl, ob, T.cl, T.nA, flds_a _ _ _, a, _, rfl, DGet.k (k := Sum.inl x) eA, _, rfl, by rw [vA x]; exact q⟩)).iff (by simp)) (fun c4 => ?_) (fun c4 => ?_)
    · rw [if_pos c4] at k
      exact k
    rw [if_neg c4] at k
    refine PuT.ret (c := w = W.wait ∧ x = t) ((PuT.and (a := decide (w = W.wait)) (b := decide (x = t)) (fun Qt q => ⟨_, rfl, rfl, _, rfl, wd _ Qt q⟩)
      (fun _ Qt q => ⟨_, rfl, _, rfl, rfl, _, rfl, by rw [dec_int']; exact q⟩)).iff (by simp)) (fun c5 => ?_) (fun c5 => ?_)
    · rw [if_pos c5] at k
      exact k
    rw [if_neg c5] at k
    exact k
theorem scFol : FnScope ["self", "thread", "word", "thing"] ["self", "thread", "word", "thing"] (defScope sFol) := ⟨rfl, rfl, rfl, by decide +kernel, rfl, by decide +kernel, by decide +kernel⟩
theorem ok_fol {f C aW aT : Addr} {fd : FuncData} (F : Fun K "follow" "Past.follow" sFol f fd) (T : Txt K mg C aW aT) : FnOk P w K mg base CX0 1 f fd ["self", "thread", "word", "thing"] (spFol C) := by
  refine F.ok scFol (fun vs H Q E h => ?_) (fun cdv A outer s H vs Q E hr h => ?_)
  · obtain ⟨p, a, g, h, st, n, t, w, x, rfl, _⟩ := h
    rfl
  · obtain ⟨p, a, g, h, st, n, t, w, x, rfl, S, hn, hgive, k⟩ := h
    have hu := hu_of hr
    obtain ⟨⟨dx, ob⟩, ⟨kA, eA, lA, vA⟩, ⟨kG, eG, lG, vG⟩, ⟨kH, eH, lH, vH⟩, ag, ah, gh⟩ := id S
    have npa : p ≠ a := ne_of ob eA (by intro z; cases z)
    have npg : p ≠ g := ne_of ob eG (by intro z; cases z)
    have nph : p ≠ h := ne_of ob eH (by intro z; cases z)
    refine ⟨_, pss_cons (ps_if (pt_cmpR op_eq (pv 2) pe_str (nomark _)) (pss_one (ps_dput hu (pe_fld (pv 0) rfl) (pv 3) (pv 1) rfl)) pss_nil)
      (pss_cons (ps_if (pt_cmpR op_eq (pv 2) pe_str (nomark _)) (pss_one (ps_expr (pe_dpop1 (pe_fld (pv 0) rfl) (pv 3) ⟨rfl, rfl, rfl, rfl⟩))) pss_nil)
      (pss_cons (ps_if (pt_cmpR op_eq (pv 2) pe_str (nomark _)) (pss_one (ps_dput hu (pe_fld (pv 0) rfl) (pv 3) pe_bl rfl)) pss_nil)
      (pss_one (ps_if (pt_cmpR op_eq (pv 2) pe_str (nomark _)) (pss_one (ps_dput hu (pe_fld (pv 0) rfl) (pv 3) pe_bl rfl)) pss_nil)))), ?_⟩
    have wd : ∀ (l : Str) (H : Hp) (Qt : Bool → Hp → Prop), Qt (decide (w = l)) H → Qt (decide (V.str w = V.str l)) H := fun l H Qt q => by rw [dec_str']; exact q
    -- what follow makes of the state
    have fa : ∀ n, w ≠ W.fork → (follow st (t, w, x)).awake n = st.awake n := fun n z => orF fun q => z q.1
    have fg : ∀ n, w ≠ W.wait → (follow st (t, w, x)).gone n = st.gone n := fun n z => orF fun q => z q.1
    have fh : ∀ n, w ≠ W.take → w ≠ W.give → (follow st (t, w, x)).hold n = st.hold n := fun n z1 z2 => by
      show (if n = x ∧ w = W.take then some t else if n = x ∧ w = W.give then none else st.hold n) = _
      rw [if_neg (fun q => z1 q.2), if_neg (fun q => z2 q.2)]
    have dA : w ≠ W.fork → ∃ kA : List (Key × V), H a = some (.dK kA) ∧ kA.length ≤ n + 1 + 1 ∧ ∀ k : Int, (valV kA (Sum.inl k)).isSome = (follow st (t, w, x)).awake k := fun z => ⟨kA, eA, by omega, fun n => by rw [fa n z]; exact vA n⟩
    have dG : w ≠ W.wait → ∃ kG : List (Key × V), H g = some (.dK kG) ∧ kG.length ≤ n + 1 ∧ ∀ k : Int, (valV kG (Sum.inl k)).isSome = (follow st (t, w, x)).gone k := fun z => ⟨kG, eG, by omega, fun n => by rw [fg n z]; exact vG n⟩
    have dH : w ≠ W.take → w ≠ W.give → ∃ kH : List (Key × V), H h = some (.dK kH) ∧ kH.length ≤ n + 1 ∧ ∀ k : Int, valV kH (Sum.inl k) = ((follow st (t, w, x)).hold k).map V.int := fun z1 z2 => ⟨kH, eH, by omega, fun n => by rw [fh n z1 z2]; exact vH n⟩
    refine PuT.ifs (c := w = W.take) (fun Qt q => ⟨_, rfl, rfl, _, rfl, wd _ _ Qt q⟩) (fun c1 => ?_) (fun c1 => ?_)
    · refine ⟨_, rfl, _, rfl, p, C, dx, _, _, rfl, ob, T.cl, T.nH, flds_h _ _ _, _, rfl, h, _, rfl, DPut.k (k := Sum.inl x) eH (small1000 (by omega)), ?_⟩
      dsimp only
      refine PuT.ifs (c := w = W.give) (fun Qt q => ⟨_, rfl, rfl, _, rfl, wd _ _ Qt q⟩) (fun c2 => absurd (c1.symm.trans c2) nTG) (fun c2 => ?_)
      refine PuT.ifs (c := w = W.fork) (fun Qt q => ⟨_, rfl, rfl, _, rfl, wd _ _ Qt q⟩) (fun c3 => absurd (c1.symm.trans c3) nTF) (fun c3 => ?_)
      refine PuT.if1 (c := w = W.wait) (fun Qt q => ⟨_, rfl, rfl, _, rfl, wd _ _ Qt q⟩) (fun c4 => absurd (c1.symm.trans c4) nTW) (fun c4 => ?_)
      refine k _ ⟨⟨dx, by rw [upd_ne nph]; exact ob⟩, ?_, ?_, ⟨_, upd_same, ?_, fun m => ?_⟩, ag, ah, gh⟩ (fun b o e h1 h2 h3 => by rw [upd_ne h3]; exact e)
      · rw [upd_ne ah]; exact dA c3
      · rw [upd_ne gh]; exact dG c4
      · have := length_putK kH (Sum.inl x : Key) (V.int t); omega
      · rw [valV_put]
        show _ = ((if m = x ∧ w = W.take then some t else if m = x ∧ w = W.give then none else st.hold m)).map V.int
        by_cases e : m = x
        · rw [if_pos (inl_inj.mpr e), if_pos ⟨e, c1⟩]; rfl
        · rw [if_neg (fun z => e (inl_inj.mp z)), if_neg (fun z => e z.1), if_neg (fun z => e z.1)]; exact vH m
    refine PuT.ifs (c := w = W.give) (fun Qt q => ⟨_, rfl, rfl, _, rfl, wd _ _ Qt q⟩) (fun c2 => ?_) (fun c2 => ?_)
    · obtain ⟨i, hi⟩ := Option.ne_none_iff_exists'.mp (hgive c2)
      refine ⟨_, rfl, p, C, dx, _, _, rfl, ob, T.cl, T.nH, flds_h _ _ _, h, rfl, .inl ⟨kH, .inl eH⟩, _, rfl, kH, Sum.inl x, V.int i, eH, rfl, (by rw [vH x, hi]; rfl), ?_⟩
      dsimp only
      refine PuT.ifs (c := w = W.fork) (fun Qt q => ⟨_, rfl, rfl, _, rfl, wd _ _ Qt q⟩) (fun c3 => absurd (c2.symm.trans c3) nGF) (fun c3 => ?_)
      refine PuT.if1 (c := w = W.wait) (fun Qt q => ⟨_, rfl, rfl, _, rfl, wd _ _ Qt q⟩) (fun c4 => absurd (c2.symm.trans c4) nGW) (fun c4 => ?_)
      refine k _ ⟨⟨dx, by rw [upd_ne nph]; exact ob⟩, ?_, ?_, ⟨_, upd_same, ?_, fun m => ?_⟩, ag, ah, gh⟩ (fun b o e h1 h2 h3 => by rw [upd_ne h3]; exact e)
      · rw [upd_ne ah]; exact dA c3
      · rw [upd_ne gh]; exact dG c4
      · have : (dropK kH (Sum.inl x : Key)).length ≤ kH.length := List.length_filter_le _ _
        omega
      · rw [valV_drop]
        show _ = ((if m = x ∧ w = W.take then some t else if m = x ∧ w = W.give then none else st.hold m)).map V.int
        by_cases e : m = x
        · rw [if_pos (inl_inj.mpr e), if_neg (fun z => c1 z.2), if_pos ⟨e, c2⟩]; rfl
        · rw [if_neg (fun z => e (inl_inj.mp z)), if_neg (fun z => e z.1), if_neg (fun z => e z.1)]; exact vH m
    refine PuT.ifs (c := w = W.fork) (fun Qt q => ⟨_, rfl, rfl, _, rfl, wd _ _ Qt q⟩) (fun c3 => ?_) (fun c3 => ?_)
    · refine ⟨_, rfl, p, C, dx, _, _, rfl, ob, T.cl, T.nA, flds_a _ _ _, _, rfl, a, _, rfl, DPut.k (k := Sum.inl x) eA (small1000 (by omega)), ?_⟩
      dsimp only
      refine PuT.if1 (c := w = W.wait) (fun Qt q => ⟨_, rfl, rfl, _, rfl, wd _ _ Qt q⟩) (fun c4 => absurd (c3.symm.trans c4) nFW) (fun c4 => ?_)
      refine k _ ⟨⟨dx, by rw [upd_ne npa]; exact ob⟩, ⟨_, upd_same, ?_, fun m => ?_⟩, ?_, ?_, ag, ah, gh⟩ (fun b o e h1 h2 h3 => by rw [upd_ne h1]; exact e)
      · have := length_putK kA (Sum.inl x : Key) (V.bl true); omega
      · rw [valV_put]
        show _ = (st.awake m || decide (w = W.fork ∧ m = x))
        by_cases e : m = x
        · rw [if_pos (inl_inj.mpr e), decide_eq_true ⟨c3, e⟩, Bool.or_true]; rfl
        · rw [if_neg (fun z => e (inl_inj.mp z)), orF (fun z => e z.2)]; exact vA m
      · rw [upd_ne ag.symm]; exact dG c4
      · rw [upd_ne ah.symm]; exact dH c1 c2
    refine PuT.if1 (c := w = W.wait) (fun Qt q => ⟨_, rfl, rfl, _, rfl, wd _ _ Qt q⟩) (fun c4 => ?_) (fun c4 => ?_)
    · refine ⟨_, rfl, p, C, dx, _, _, rfl, ob, T.cl, T.nG, flds_g _ _ _, _, rfl, g, _, rfl, DPut.k (k := Sum.inl x) eG (small1000 (by omega)), ?_⟩
      refine k _ ⟨⟨dx, by rw [upd_ne npg]; exact ob⟩, ?_, ⟨_, upd_same, ?_, fun m => ?_⟩, ?_, ag, ah, gh⟩ (fun b o e h1 h2 h3 => by rw [upd_ne h2]; exact e)
      · rw [upd_ne ag]; exact dA c3
      · have := length_putK kG (Sum.inl x : Key) (V.bl true); omega
      · rw [valV_put]
        show _ = (st.gone m || decide (w = W.wait ∧ m = x))
        by_cases e : m = x
        · rw [if_pos (inl_inj.mpr e), decide_eq_true ⟨c4, e⟩, Bool.or_true]; rfl
        · rw [if_neg (fun z => e (inl_inj.mp z)), orF (fun z => e z.2)]; exact vG m
      · rw [upd_ne gh.symm]; exact dH c1 c2
    · exact k _ ⟨⟨dx, ob⟩, dA c3, dG c4, dH c1 c2, ag, ah, gh⟩ (fun b o e _ _ _ => e)
end
end K
namespace K
open PySem L2 RC
def spOf (C : Addr) : Sp := fun vs H Q _ => ∃ (m : Int) (p a g h : Addr) (st : Pst) (n : Nat) (t : Int) (w : Str) (x : Int), vs = [.int m, .ref p, .int t, .str w, .int x] ∧ PastAt C H p a g h st n ∧ Q (oV (faultOf m st (t, w, x))) H
def spFault (K : PySem.W.Frag) : Sp := fun vs H Q _ => ∃ (m : Int) (l : Addr) (xs : List V) (ds : List Deed), vs = [.int m, .ref l] ∧ SqL K H l xs ∧ Deeds H xs ds ∧ ds.length ≤ 100 ∧
  ∀ (r : Option (Nat × Str)) (v : V) (H' : Hp), Fault m ds r → Same H H' → Told H' v r → Q v H'
theorem oV_none {o : Option Str} : decide (oV o = V.non) = decide (o = none) := by
  cases o with
  | none => rfl
  | some s => rfl
theorem oV_some {o : Option Str} : (!decide (oV o = V.non)) = decide (o ≠ none) := by
  cases o with
  | none => rfl
  | some s => rfl
structure Cal (K : PySem.W.Frag) (mg : Str → Option Value) (x : Str) (f : Addr) (fd : FuncData) (ps : List Str) : Prop where
  mgf : mg x = some (.ref f)
  kp : PySem.W.keepIn K (.ref f) = true
  b : Binds K fd ps []
section
variable {P : Program} {w : World} {K : PySem.W.Frag} {mg : Str → Option Value} {base : Heap}
theorem scOf : FnScope ["many", "past", "thread", "word", "thing", "found"] ["many", "past", "thread", "word", "thing"] (defScope sOf) := ⟨rfl, rfl, rfl, by decide +kernel, rfl, by decide +kernel, by decide +kernel⟩
theorem ok_of {f C aW aT f1 f2 f3 : Addr} {fd fd1 fd2 fd3 : FuncData} (F : Fun K "fault_of_deed" "fault_of_deed" sOf f fd) (T : Txt K mg C aW aT)
    (F1 : Fun K "fault_of_form" "fault_of_form" sForm f1 fd1) (c1 : Cal K mg "fault_of_form" f1 fd1 ["many", "thread", "word", "thing"])
    (F2 : Fun K "fault_of_thread" "Past.fault_of_thread" sTh f2 fd2) (b2 : Binds K fd2 ["self", "thread"] []) (m2 : Meth K C "fault_of_thread" f2)
    (F3 : Fun K "fault_of_word" "Past.fault_of_word" sWo f3 fd3) (b3 : Binds K fd3 ["self", "thread", "word", "thing"] []) (m3 : Meth K C "fault_of_word" f3) :
    FnOk P w K mg base CX0 2 f fd ["many", "past", "thread", "word", "thing"] (spOf C) := by
  have G1 : FnOk P w K mg base CX0 1 f1 fd1 ["many", "thread", "word", "thing"] spForm := ok_form F1 T
  have G2 : FnOk P w K mg base CX0 1 f2 fd2 ["self", "thread"] (spTh C) := ok_th F2 T
  have G3 : FnOk P w K mg base CX0 1 f3 fd3 ["self", "thread", "word", "thing"] (spWo C) := ok_wo F3 T
  refine F.ok scOf (fun vs H Q E h => ?_) (fun cdv A outer s H vs Q E hr h => ?_)
  · obtain ⟨m, p, a, g, h, st, n, t, w, x, rfl, _⟩ := h
    rfl
  · obtain ⟨m, p, a, g, h, st, n, t, w, x, rfl, S, k⟩ := h
    obtain ⟨⟨dx, ob⟩, _⟩ := id S
    refine ⟨_, pss_cons (ps_set (i := 5) scOf.nd rfl (Or.inl rfl) (pe_call G1 hr rfl c1.mgf c1.kp c1.b .nil pass0 (pa_cons (pv 0) (pa_cons (pv 2) (pa_cons (pv 3) (pa_cons (pv 4) pa_nil))))))
      (pss_cons (ps_if (pt_cmpR op_isN (pv 5) pe_non (nomark _)) (pss_one (ps_set (i := 5) scOf.nd rfl (Or.inl rfl) (pe_meth (pv 1) T.cl m2 G2 hr b2 .nil pass0 (pa_cons (pv 2) pa_nil)))) pss_nil)
      (pss_cons (ps_if (pt_cmpR op_isN (pv 5) pe_non (nomark _)) (pss_one (ps_set (i := 5) scOf.nd rfl (Or.inl rfl) (pe_meth (pv 1) T.cl m3 G3 hr b3 .nil pass0 (pa_cons (pv 2) (pa_cons (pv 3) (pa_cons (pv 4) pa_nil)))))) pss_nil)
      (pss_one (ps_ret (pv 5))))), ?_⟩
    unfold faultOf stF at k
    refine ⟨_, rfl, _, rfl, _, rfl, _, rfl, m, t, w, x, rfl, ?_⟩
    dsimp only [gName]
    refine PuT.ifs (c := form m (t, w, x) = none) (fun Qt q => ⟨_, rfl, rfl, _, rfl, by rw [oV_none]; exact q⟩) (fun z1 => ?_) (fun z1 => ?_)
    · refine ⟨_, rfl, p, dx, _, rfl, ob, flds_no _ _ _ (by decide +kernel) (by decide +kernel) (by decide +kernel), _, rfl, p, a, g, h, st, n, t, rfl, S, ?_⟩
      rw [z1, Option.none_or] at k
      dsimp only [gName]
      refine PuT.ifs (c := thF st t = none) (fun Qt q => ⟨_, rfl, rfl, _, rfl, by rw [oV_none]; exact q⟩) (fun z2 => ?_) (fun z2 => ?_)
      · refine ⟨_, rfl, p, dx, _, rfl, ob, flds_no _ _ _ (by decide +kernel) (by decide +kernel) (by decide +kernel), _, rfl, _, rfl, _, rfl, p, a, g, h, st, n, t, w, x, rfl, S, ?_⟩
        have z2' : thF st (t, w, x).1 = none := z2
        rw [z2', Option.none_or] at k
        exact ⟨_, rfl, k⟩
      · obtain ⟨q, hq⟩ := Option.ne_none_iff_exists'.mp z2
        have z2' : thF st (t, w, x).1 = some q := hq
        rw [z2', Option.some_or] at k
        refine ⟨_, rfl, ?_⟩
        rw [hq]
        exact k
    · obtain ⟨q, hq⟩ := Option.ne_none_iff_exists'.mp z1
      rw [hq, Option.some_or] at k
      refine PuT.ifs (c := False) (fun Qt q' => ⟨_, rfl, rfl, _, rfl, by rw [hq]; exact q'⟩) (fun z => z.elim) (fun _ => ?_)
      refine ⟨_, rfl, ?_⟩
      rw [hq]
      exact k
theorem scFault : FnScope ["many", "deeds", "past", "place", "thread", "word", "thing", "found"] ["many", "deeds"] (defScope sFault) := ⟨rfl, rfl, rfl, by decide +kernel, rfl, by decide +kernel, by decide +kernel⟩
theorem ok_fault {f C aW aT fI fO fF : Addr} {fd fdI fdO fdF : FuncData} (F : Fun K "fault" "fault" sFault f fd) (T : Txt K mg C aW aT)
    (GI : FnOk P w K mg base CX0 1 fI fdI ["self"] (spInit C)) (M : Mk K C fI) (bI : Binds K fdI ["self"] [])
    (GO : FnOk P w K mg base CX0 2 fO fdO ["many", "past", "thread", "word", "thing"] (spOf C)) (cO : Cal K mg "fault_of_deed" fO fdO ["many", "past", "thread", "word", "thing"])
    (GF : FnOk P w K mg base CX0 1 fF fdF ["self", "thread", "word", "thing"] (spFol C)) (bF : Binds K fdF ["self", "thread", "word", "thing"] []) (mF : Meth K C "follow" fF) :
    FnOk P w K mg base CX0 4 f fd ["many", "deeds"] (spFault K) := by
  refine F.ok scFault (fun vs H Q E h => ?_) (fun cdv A outer s H vs Q E hr h => ?_)
  · obtain ⟨m, l, xs, ds, rfl, _⟩ := h
    rfl
  · obtain ⟨m, l, xs, ds, rfl, hl, hds, hlen, k⟩ := h
    have hr1 : Room 1 _ := hr.mono (by decide)
    have hr2 : Room 2 _ := hr.mono (by decide)
    refine ⟨_, pss_cons (ps_set (i := 2) scFault.nd rfl (Or.inl rfl) (pe_make0 M GI hr2 rfl T.mgC bI .nil pass0))
      (pss_cons (ps_for PassesOwn.never rfl (pi_enum rfl T.enu (pa_cons (pv 1) pa_nil))
          (pg_tup rfl (pgs_cons (pg_name (i := 3) scFault.nd rfl (Or.inl rfl)) (pgs_cons (pg_tup rfl (pgs_cons (pg_name (i := 4) scFault.nd rfl (Or.inl rfl)) (pgs_cons (pg_name (i := 5) scFault.nd rfl (Or.inl rfl)) (pgs_cons (pg_name (i := 6) scFault.nd rfl (Or.inl rfl)) pgs_nil)))) pgs_nil)))
        (pss_cons (ps_set (i := 7) scFault.nd rfl (Or.inl rfl) (pe_call GO hr2 rfl cO.mgf cO.kp cO.b .nil pass0 (pa_cons (pv 0) (pa_cons (pv 2) (pa_cons (pv 4) (pa_cons (pv 5) (pa_cons (pv 6) pa_nil)))))))
        (pss_cons (ps_if (pt_cmpR op_notN (pv 7) pe_non (nomark _)) (pss_one (ps_ret (pe_tup (pa_cons (pv 3) (pa_cons (pv 7) pa_nil))))) pss_nil)
        (pss_one (ps_expr (pe_meth (pv 2) T.cl mF GF hr1 bF .nil pass0 (pa_cons (pv 4) (pa_cons (pv 5) (pa_cons (pv 6) pa_nil)))))))))
      (pss_one (ps_ret pe_non))), ?_⟩
    intro p dx np ndx nex
    refine ⟨p, dx, rfl, upd_same, fun a g h H1 na ng nh S1 kp => ⟨rfl, ?_⟩⟩
    have s0 : Same H (upd (upd H dx (.own p)) p (.ins C dx [])) := fun b o e => by
      rw [upd_ne (ne_of_none e np), upd_ne (ne_of_none e ndx)]
      exact e
    have s1 : Same H H1 := fun b o e => kp b o (s0 b o e) (ne_of_none e np)
    have na0 : H a = none := s0.free na
    have ng0 : H g = none := s0.free ng
    have nh0 : H h = none := s0.free nh
    dsimp only [gName]
    refine ⟨_, rfl, l, rfl, ⟨_, s1.seq hl⟩, for_enum (K := K) (a := l) (xs := xs) (fun i σ H2 => ∃ (v3 v4 v5 v6 v7 : Option V), σ = [some (.int m), some (.ref l), some (.ref p), v3, v4, v5, v6, v7] ∧ Same H H2 ∧ PastAt C H2 p a g h (stOf (ds.take i)) i ∧
        ∀ j d, j < i → ds[j]? = some d → faultOf m (stOf (ds.take j)) d = none)
      ⟨none, none, none, none, none, rfl, s1, S1, fun j d hj => absurd hj (Nat.not_lt_zero _)⟩ (fun i σ H2 _ ⟨_, _, _, _, _, _, s2, _⟩ => s2.seq hl) ?_ ?_⟩
    · rintro i y σ H2 tp hi ⟨v3, v4, v5, v6, v7, rfl, s2, S2, fr⟩ htp
      have hil : i < ds.length := by rw [← hds.len]; exact (List.getElem?_eq_some_iff.mp hi).1
      obtain ⟨r, t, w, x, rfl, er, ed⟩ := (hds.same s2).get hi
      have s3 : Same H2 (upd H2 tp (.tup [.int (i : Int), .ref r])) := same_new htp
      have S3 := S2.keep s3
      obtain ⟨⟨dy, ob⟩, _⟩ := id S3
      refine ⟨tp, _, rfl, SqT.of upd_same, rfl, _, _, rfl, _, _, rfl, ⟨r, _, rfl, SqT.of (s3 _ _ er), rfl, _, _, rfl, _, _, rfl, _, _, rfl, rfl, rfl, ?_⟩⟩
      refine ⟨_, rfl, _, rfl, _, rfl, _, rfl, _, rfl, m, p, a, g, h, _, _, t, w, x, rfl, S3, ?_⟩
      dsimp only [gName]
      refine PuT.ifs (c := faultOf m (stOf (ds.take i)) (t, w, x) ≠ none) (fun Qt q => ⟨_, rfl, rfl, _, rfl, by rw [oV_some]; exact q⟩) (fun z => ?_) (fun z => ?_)
      · obtain ⟨q, hq⟩ := Option.ne_none_iff_exists'.mp z
        refine ⟨_, rfl, _, rfl, (by show 2 ≤ sizeLine; decide), fun u hu => ?_⟩
        have s4 : Same H2 (upd (upd H2 tp (.tup [.int (i : Int), .ref r])) u (.tup [.int (i : Int), oV (faultOf m (stOf (ds.take i)) (t, w, x))])) := s3.trans (same_new hu)
        refine k (some (i, q)) _ _ ⟨⟨_, ed, hq⟩, fr⟩ (s2.trans s4) ⟨u, rfl, ?_⟩
        rw [upd_same, hq]
        rfl
      · have z : faultOf m (stOf (ds.take i)) (t, w, x) = none := Classical.byContradiction z
        refine ⟨_, rfl, p, dy, _, rfl, ob, flds_no _ _ _ (by decide +kernel) (by decide +kernel) (by decide +kernel), _, rfl, _, rfl, _, rfl, p, a, g, h, _, _, t, w, x, rfl, S3, by omega, fun hw hn => ?_, fun H4 S4 fr4 => ?_⟩
        · -- a give without a holder would have been a fault
          unfold faultOf stF at z
          rw [Option.or_eq_none_iff, Option.or_eq_none_iff] at z
          have z2 := z.2.2
          unfold woF at z2
          rw [if_neg (fun q => nTG (q.1.symm.trans hw)), if_pos ⟨hw, by rw [hn]; exact fun q => by cases q⟩] at z2
          cases z2
        · refine ⟨_, _, _, _, _, rfl, fun b o e => ?_, ?_, fun j d hj e => ?_⟩
          · exact fr4 b o (s3 b o (s2 b o e)) (ne_of_none e na0) (ne_of_none e ng0) (ne_of_none e nh0)
          · rw [take_snoc ed, stOf_snoc]
            exact S4
          · rcases Nat.lt_succ_iff_lt_or_eq.mp hj with q | q
            · exact fr j d q e
            · subst q
              rw [ed] at e
              cases e
              exact z
    · rintro σ H2 ⟨v3, v4, v5, v6, v7, rfl, s2, S2, fr⟩
      refine k none _ H2 (fun j d e => fr j d ?_ e) s2 rfl
      rw [hds.len]
      exact (List.getElem?_eq_some_iff.mp e).1
end
end K
namespace K
open PySem L2 RC
theorem bIsi : bootBuiltins "isinstance" = some (.builtin "isinstance") := by decide +kernel
theorem bInt : bootBuiltins "int" = some (.type "int") := by decide +kernel
theorem bBool : bootBuiltins "bool" = some (.type "bool") := by decide +kernel
theorem bTuple : bootBuiltins "tuple" = some (.type "tuple") := by decide +kernel
theorem bList : bootBuiltins "list" = some (.type "list") := by decide +kernel
theorem bSorted : bootBuiltins "sorted" = some (.builtin "sorted") := by decide +kernel
def spCell (K : PySem.W.Frag) : Sp := fun vs H Q _ => ∃ (a : Addr) (k : Int) (ns : List Int), vs = [.ref a, .int k] ∧ SqL K H a (ns.map V.int) ∧ 0 ≤ k ∧ ∀ c : Int, 0 ≤ c → Q (.int c) H
def tupD (d : Deed) : HO := .tup [.int d.1, .str d.2.1, .int d.2.2]
section
variable {P : Program} {w : World} {K : PySem.W.Frag} {mg : Str → Option Value} {base : Heap}
theorem scCell : FnScope ["_law_script", "_law_k"] ["_law_script", "_law_k"] (defScope s__law_cell) := ⟨rfl, rfl, rfl, by decide +kernel, rfl, by decide +kernel, by decide +kernel⟩
theorem ok_cell {f C aW aT : Addr} {fd : FuncData} (F : Fun K "_law_cell" "_law_cell" s__law_cell f fd) (T : Txt K mg C aW aT) : FnOk P w K mg base CX0 1 f fd ["_law_script", "_law_k"] (spCell K) := by
  refine F.ok scCell (fun vs H Q E h => ?_) (fun cdv A outer s H vs Q E hr h => ?_)
  · obtain ⟨a, k, ns, rfl, _⟩ := h
    rfl
  · obtain ⟨a, k, ns, rfl, hS, h0, q⟩ := h
    refine ⟨_, pss_cons (ps_if (pt_cmpR op_lt (pv 1) (pe_callB call_len_seq (by rfl) T.len PySem.boot_len (pa_cons (pv 0) pa_nil)) (nomark _)) (pss_one (ps_ret (pe_op op_mod (pe_ix ix_list (pv 0) (pv 1) (fun _ _ => rfl)) (pe_op op_pow pe_int pe_int)))) pss_nil) (pss_one (ps_ret pe_int)), ?_⟩
    refine PuT.ifs (c := k < (ns.length : Int)) (fun Qt q => ⟨_, rfl, _, rfl, a, _, rfl, .inl hS, _, _, rfl, rfl, _, rfl, by rw [List.length_map]; exact q⟩) (fun z => ?_) (fun z => ?_)
    · obtain ⟨n, rfl⟩ : ∃ n : Nat, k = n := ⟨k.toNat, by omega⟩
      have hn : n < ns.length := by omega
      exact ⟨_, rfl, _, rfl, a, _, (n : Int), V.int ns[n], rfl, rfl, hS, atI_nat (by rw [List.getElem?_map]; simp [hn]), _, _, rfl, rfl, ⟨by decide, by decide, by decide⟩, _, _, rfl, rfl, (by show (0 : Int) < 10 ^ (60 : Int).toNat; decide), q _ (Int.emod_nonneg _ (by decide))⟩
    · exact q 0 (Int.le_refl _)
end
end K
namespace RC
open PySem L2
end RC
namespace L2
open PySem PySem.Spec PyProof.Rows
end L2
namespace L2
open PySem
end L2
namespace RC
open PySem L2
def spLaw (K : PySem.W.Frag) : Sp := fun vs H Q _ => ∃ (a : Addr) (ns : List Int), vs = [.ref a] ∧ SqL K H a (ns.map V.int) ∧ ns.length ≤ 63 ∧ ∀ H', Q (.bl true) H'
end RC
namespace K
open PySem L2 RC
structure TxtR (K : PySem.W.Frag) (mg : Str → Option Value) (CR : Addr) : Prop where
  cl : Cls K CR
  nM : NoAttr K CR "many"
  nS : NoAttr K CR "size"
  nA : NoAttr K CR "all_deeds"
  mgR : mg "Row" = some (.ref CR)
  mgT : ∃ t, mg "MOST_THREADS" = some (.int 6 t)
  mgD : ∃ t, mg "MOST_DEEDS" = some (.int 60 t)
theorem n_am : ¬ (("many" : Str) = "all_deeds") := by decide +kernel
theorem n_sm : ¬ (("many" : Str) = "size") := by decide +kernel
def rflds (m : Int) (n : Nat) (t : Addr) : List (Str × V) := putF "all_deeds" (.ref t) (putF "size" (.int (n : Int)) (putF "many" (.int m) []))
theorem rflds_a (m : Int) (n : Nat) (t : Addr) : (rflds m n t).lookup ("all_deeds" : Str) = some (.ref t) := by
  unfold rflds
  rw [lookup_putF, if_pos rfl]
theorem rflds_m (m : Int) (n : Nat) (t : Addr) : (rflds m n t).lookup ("many" : Str) = some (.int m) := by
  unfold rflds
  rw [lookup_putF, if_neg n_am, lookup_putF, if_neg n_sm, lookup_putF, if_pos rfl]
theorem rflds_no (m : Int) (n : Nat) (t : Addr) {x : Str} (h1 : ¬ x = "all_deeds") (h2 : ¬ x = "size") (h3 : ¬ x = "many") : (rflds m n t).lookup x = none := by
  unfold rflds
  rw [lookup_putF, if_neg h1, lookup_putF, if_neg h2, lookup_putF, if_neg h3]
  all_goals rfl
structure RowAt (CR : Addr) (H : Hp) (p : Addr) (m : Int) (xs : List V) : Prop where
  ex : ∃ dx t, H p = some (.ins CR dx (rflds m xs.length t)) ∧ H t = some (.tup xs)
theorem RowAt.same {CR : Addr} {H H' : Hp} {p : Addr} {m : Int} {xs : List V} (s : Same H H') (h : RowAt CR H p m xs) : RowAt CR H' p m xs := by
  obtain ⟨dx, t, e1, e2⟩ := h.ex
  exact ⟨dx, t, s _ _ e1, s _ _ e2⟩
theorem seq_off {K : PySem.W.Frag} {H H' : Hp} {p C dx l : Addr} {fs : List (Str × V)} {xs : List V} (hp : H p = some (.ins C dx fs)) (k : ∀ b o, H b = some o → b ≠ p → H' b = some o) (h : SqL K H l xs) : SqL K H' l xs := by
  rcases h with (h | ⟨o, h⟩) | h
  · exact .inl (.inl (k _ _ h (ne_of h hp (by intro z; cases z))))
  · exact .inl (.inr ⟨o, k _ _ h (ne_of h hp (by intro z; cases z))⟩)
  · exact .inr h
def spRow (K : PySem.W.Frag) (CR : Addr) : Sp := fun vs H Q _ => ∃ (p dx : Addr) (m : Int) (l : Addr) (xs : List V) (ds : List Deed), vs = [.ref p, .int m, .ref l] ∧ H p = some (.ins CR dx []) ∧ SqL K H l xs ∧ Deeds H xs ds ∧ 1 ≤ m ∧ m ≤ 6 ∧ ds.length ≤ 60 ∧ Fault m ds none ∧
  ∀ H', RowAt CR H' p m xs → (∀ b o, H b = some o → b ≠ p → H' b = some o) → Q .non H'
theorem row_made {K : PySem.W.Frag} {CR l x dx : Addr} {H : Hp} {m : Int} {xs : List V} {ds : List Deed} {Q : VK} {E : XK} (nx : H x = none) (ndx : H dx = none) (hl : SqL K H l xs) (hds : Deeds H xs ds) (m1 : 1 ≤ m) (m6 : m ≤ 6) (hlen : ds.length ≤ 60) (fa : Fault m ds none)
    (k : ∀ H', Same H H' → RowAt CR H' x m xs → Q .non H') : spRow K CR (.ref x :: ([.int m, .ref l] ++ [])) (upd (upd H dx (.own x)) x (.ins CR dx [])) Q E := by
  have s0 : Same H (upd (upd H dx (.own x)) x (.ins CR dx [])) := fun b o e => by
    rw [upd_ne (ne_of_none e nx), upd_ne (ne_of_none e ndx)]
    exact e
  exact ⟨x, dx, m, l, xs, ds, rfl, upd_same, s0.seq hl, hds.same s0, m1, m6, hlen, fa, fun H' R kp => k H' (fun b o e => kp b o (s0 b o e) (ne_of_none e nx)) R⟩
def spDeed (CR : Addr) : Sp := fun vs H Q _ => ∃ (p : Addr) (m : Int) (xs : List V) (i : Nat) (v : V), vs = [.ref p, .int (i : Int)] ∧ RowAt CR H p m xs ∧ xs[i]? = some v ∧ Q v H
def spRDs (CR : Addr) : Sp := fun vs H Q _ => ∃ (p : Addr) (m : Int) (xs : List V), vs = [.ref p] ∧ RowAt CR H p m xs ∧ ∀ l, H l = none → Q (.ref l) (upd H l (.lst xs))
section
variable {P : Program} {w : World} {K : PySem.W.Frag} {mg : Str → Option Value} {base : Heap}
theorem scRow : FnScope ["self", "many", "deeds", "found"] ["self", "many", "deeds"] (defScope sRow) := ⟨rfl, rfl, rfl, by decide +kernel, rfl, by decide +kernel, by decide +kernel⟩
theorem ok_row {f C aW aT CR fF : Addr} {fd fdF : FuncData} (F : Fun K "__init__" "Row.__init__" sRow f fd) (T : Txt K mg C aW aT) (R : TxtR K mg CR)
    (GF : FnOk P w K mg base CX0 4 fF fdF ["many", "deeds"] (spFault K)) (cF : Cal K mg "fault" fF fdF ["many", "deeds"]) : FnOk P w K mg base CX0 5 f fd ["self", "many", "deeds"] (spRow K CR) := by
  refine F.ok scRow (fun vs H Q E h => ?_) (fun cdv A outer s H vs Q E hr h => ?_)
  · obtain ⟨p, dx, m, l, xs, ds, rfl, _⟩ := h
    rfl
  · obtain ⟨p, dx, m, l, xs, ds, rfl, hp, hl, hds, m1, m6, hlen, fa, k⟩ := h
    have nd := scRow.nd
    obtain ⟨tT, hT⟩ := R.mgT
    obtain ⟨tD, hD⟩ := R.mgD
    refine ⟨_, pss_cons (ps_if (pt_not (pt_chain op_le op_le pe_int (pv 1) (pe_glob rfl hT (v := .int 6) ⟨_, rfl⟩))) pss_never pss_nil)
      (pss_cons (ps_if (pt_cmpR op_gt (pe_callB call_len_seq (by rfl) T.len PySem.boot_len (pa_cons (pv 2) pa_nil)) (pe_glob rfl hD (v := .int 60) ⟨_, rfl⟩) (nomark _)) pss_never pss_nil)
      (pss_cons (ps_set (i := 3) nd rfl (Or.inl rfl) (pe_call GF hr rfl cF.mgf cF.kp cF.b .nil pass0 (pa_cons (pv 1) (pa_cons (pv 2) pa_nil))))
      (pss_cons (ps_if (pt_cmpR op_notN (pv 3) pe_non (nomark _)) pss_never pss_nil)
      (pss_cons (ps_fld (pv 0) (pv 1) rfl)
      (pss_cons (ps_fld (pv 0) (pe_callB call_len_seq (by rfl) T.len PySem.boot_len (pa_cons (pv 2) pa_nil)) rfl)
      (pss_one (ps_fld (pv 0) (pe_callTy call_tuple_of rfl T.tup bTuple (pa_cons (pv 2) pa_nil)) rfl))))))), ?_⟩
    have hxl := hds.len
    refine PuT.ifs (c := False) (PuT.not (a := true) (fun Qt q => ⟨_, rfl, _, _, rfl, rfl, _, rfl, by
      rw [decide_eq_true m1]
      exact iteT ⟨_, _, rfl, rfl, _, rfl, by rw [decide_eq_true m6]; exact q⟩⟩)) (fun z => z.elim) (fun _ => ?_)
    refine PuT.ifs (c := False) (fun Qt q => ⟨_, rfl, l, xs, rfl, .inl hl, _, _, rfl, rfl, _, rfl, by
      rw [decide_eq_false (by omega)]
      exact q⟩) (fun z => z.elim) (fun _ => ?_)
    refine ⟨_, rfl, _, rfl, m, l, xs, ds, rfl, hl, hds, by omega, fun r v H2 fr s2 tv => ?_⟩
    dsimp only [gName]
    have er : r = none := fr.inj fa
    subst er
    have ev : v = .non := tv
    subst ev
    refine PuT.ifs (c := False) (fun Qt q => ⟨_, rfl, rfl, _, rfl, q⟩) (fun z => z.elim) (fun _ => ?_)
    refine ⟨_, rfl, _, rfl, p, CR, dx, [], rfl, s2 _ _ hp, R.cl, R.nM, (by show 0 < 1000; decide), ?_⟩
    have hl' : ∀ o, SqL K (upd H2 p o) l xs := fun o => seq_off hp (fun b u e hb => by rw [upd_ne hb]; exact s2 _ _ e) hl
    refine ⟨_, rfl, l, xs, rfl, .inl (hl' _), _, rfl, p, CR, dx, _, rfl, upd_same, R.cl, R.nS, (by show 1 < 1000; decide), ?_⟩
    rw [upd_upd]
    refine ⟨_, rfl, l, xs, rfl, .inl ⟨hl' _, fun t nt => ?_⟩⟩
    obtain ⟨ntp, nt0⟩ : t ≠ p ∧ H2 t = none := by
      by_cases e : t = p
      · rw [e, upd_same] at nt; cases nt
      · rw [upd_ne e] at nt; exact ⟨e, nt⟩
    refine ⟨_, rfl, p, CR, dx, _, rfl, (by rw [upd_ne ntp.symm, upd_same]), R.cl, R.nA, (by show 2 < 1000; decide), ?_⟩
    refine k _ ⟨dx, t, upd_same, by rw [upd_ne ntp, upd_same]⟩ (fun b o e hb => ?_)
    rw [upd_ne hb, upd_ne (ne_of_none (s2 _ _ e) nt0), upd_ne hb]
    exact s2 _ _ e
theorem scDeed : FnScope ["self", "place"] ["self", "place"] (defScope sDeed) := ⟨rfl, rfl, rfl, by decide +kernel, rfl, by decide +kernel, by decide +kernel⟩
theorem ok_deed {f CR : Addr} {fd : FuncData} (F : Fun K "deed" "Row.deed" sDeed f fd) (R : TxtR K mg CR) : FnOk P w K mg base CX0 1 f fd ["self", "place"] (spDeed CR) := by
  refine F.ok scDeed (fun vs H Q E h => ?_) (fun cdv A outer s H vs Q E hr h => ?_)
  · obtain ⟨p, m, xs, i, v, rfl, _⟩ := h
    rfl
  · obtain ⟨p, m, xs, i, v, rfl, hR, hv, k⟩ := h
    obtain ⟨dx, t, e1, e2⟩ := hR.ex
    refine ⟨_, pss_one (ps_ret (pe_ix ix_tup (pe_fld (pv 0) rfl) (pv 1) (fun _ _ => rfl))), ?_⟩
    exact ⟨_, rfl, p, CR, dx, _, _, rfl, e1, R.cl, R.nA, rflds_a _ _ _, _, rfl, t, _, _, v, rfl, rfl, SqT.of e2, atI_nat hv, k⟩
theorem scRDs : FnScope ["self"] ["self"] (defScope sRDs) := ⟨rfl, rfl, rfl, by decide +kernel, rfl, by decide +kernel, by decide +kernel⟩
theorem ok_rds {f C aW aT CR : Addr} {fd : FuncData} (F : Fun K "deeds" "Row.deeds" sRDs f fd) (T : Txt K mg C aW aT) (R : TxtR K mg CR) : FnOk P w K mg base CX0 1 f fd ["self"] (spRDs CR) := by
  refine F.ok scRDs (fun vs H Q E h => ?_) (fun cdv A outer s H vs Q E hr h => ?_)
  · obtain ⟨p, m, xs, rfl, _⟩ := h
    rfl
  · obtain ⟨p, m, xs, rfl, hR, k⟩ := h
    obtain ⟨dx, t, e1, e2⟩ := hR.ex
    refine ⟨_, pss_one (ps_ret (pe_callTy call_list_of rfl T.lst bList (pa_cons (pe_fld (pv 0) rfl) pa_nil))), ?_⟩
    exact ⟨_, rfl, p, CR, dx, _, _, rfl, e1, R.cl, R.nA, rflds_a _ _ _, t, xs, rfl, .inr (SqT.of e2), k⟩
end
end K
namespace L2
open PySem
abbrev frV (fr : List Nat) (σ : St) : St := fr.map fun i => (σ[i]?).join
theorem comp_by {J : It} {nt : Nat} {fr : List Nat} {g : TG} {tt : TT} {te : TE} {σ : St} {H1 : Hp} {Q : VK} {D : Addr} (n : Nat) (Pv : Nat → List V → Hp → Prop) (hn : n < sizeLine) (h0 : Pv 0 [] (upd H1 D (.lst [])))
    (go : ∀ i ys H', i < n → Pv i ys H' → J.go i H') (stop : ∀ ys H', Pv n ys H' → J.stop n H')
    (step : ∀ i ys H' (o : St) (N : St → Hp → Prop), i < n → o.length = nt → Pv i ys H' → H' D = some (.lst ys) → ys.length < sizeLine →
      (∀ (o2 : St) v H5, o2.length = nt → Pv (i + 1) (ys ++ [v]) (upd H5 D (.lst (ys ++ [v]))) → N (o2 ++ frV fr σ) (upd H5 D (.lst (ys ++ [v])))) → (∀ (o2 : St) H5, o2.length = nt → H5 D = some (.lst ys) → Pv (i + 1) ys H5 → N (o2 ++ frV fr σ) H5) →
      ∀ x H2, J.yld i H' x H2 → g x (o ++ frV fr σ) H2 fun σ2 H3 => tt σ2 H3 fun b H4 => if b = true then te σ2 H4 fun v H5 => ∃ ys, H5 D = some (.lst ys) ∧ ys.length < sizeLine ∧ N σ2 (upd H5 D (.lst (ys ++ [v]))) else N σ2 H4)
    (fin : ∀ ys H', Pv n ys H' → H' D = some (.lst ys) → Q (.ref D) H') :
    ∃ W : Nat → Nat → St → Hp → Prop, (∃ m, W 0 m (startC nt fr σ) (upd H1 D (.lst []))) ∧
      ∀ i m σ' H', W i m σ' H' → (J.stop i H' ∧ Q (.ref D) H') ∨ (J.go i H' ∧ ∃ N : St → Hp → Prop, (∀ σ2 H2, N σ2 H2 → ∃ m', m' < m ∧ W (i + 1) m' σ2 H2) ∧
        ∀ x H2, J.yld i H' x H2 → g x σ' H2 fun σ2 H3 => tt σ2 H3 fun b H4 => if b = true then te σ2 H4 fun v H5 => ∃ ys, H5 D = some (.lst ys) ∧ ys.length < sizeLine ∧ N σ2 (upd H5 D (.lst (ys ++ [v]))) else N σ2 H4) := by
  refine ⟨fun i m σ' H' => m = n - i ∧ i ≤ n ∧ (∃ o : St, o.length = nt ∧ σ' = o ++ frV fr σ) ∧ ∃ ys : List V, H' D = some (.lst ys) ∧ ys.length ≤ i ∧ Pv i ys H', ⟨n, by simp, Nat.zero_le _, ⟨List.replicate nt none, by simp, rfl⟩, [], upd_same, Nat.le_refl _, h0⟩, ?_⟩
  rintro i m σ' H' ⟨rfl, hi, ⟨o, ho, rfl⟩, ys, hD, hl, hP⟩
  by_cases hlt : i < n
  · refine .inr ⟨go i ys H' hlt hP, fun σ2 H2 => (∃ o : St, o.length = nt ∧ σ2 = o ++ frV fr σ) ∧ ∃ ys : List V, H2 D = some (.lst ys) ∧ ys.length ≤ i + 1 ∧ Pv (i + 1) ys H2, fun σ2 H2 ⟨h1, h2⟩ => ⟨n - (i + 1), by omega, rfl, hlt, h1, h2⟩, fun x H2 y => ?_⟩
    refine step i ys H' o _ hlt ho hP hD (by omega) (fun o2 v H5 h2 p => ⟨⟨o2, h2, rfl⟩, ys ++ [v], upd_same, ?_, p⟩) (fun o2 H5 h2 hd p => ⟨⟨o2, h2, rfl⟩, ys, hd, by omega, p⟩) x H2 y
    rw [List.length_append, List.length_singleton]
    omega
  · have e : i = n := by omega
    subst e
    exact .inl ⟨stop ys H' hP, fin ys H' hP hD⟩
theorem comp_range {n : Nat} {lo : Int} {fr : List Nat} {tt : TT} {te : TE} {σ : St} {H1 : Hp} {Q : VK} {D : Addr} (Pv : Nat → List V → Hp → Prop) (hn : n < sizeLine) (h0 : Pv 0 [] (upd H1 D (.lst [])))
    (step : ∀ i ys H' (N : St → Hp → Prop), i < n → Pv i ys H' → H' D = some (.lst ys) → ys.length < sizeLine →
      (∀ v H5, Pv (i + 1) (ys ++ [v]) (upd H5 D (.lst (ys ++ [v]))) → N (some (.int (lo + i)) :: frV fr σ) (upd H5 D (.lst (ys ++ [v])))) → (∀ H5, H5 D = some (.lst ys) → Pv (i + 1) ys H5 → N (some (.int (lo + i)) :: frV fr σ) H5) →
      tt (some (.int (lo + i)) :: frV fr σ) H' fun b H4 => if b = true then te (some (.int (lo + i)) :: frV fr σ) H4 fun v H5 => ∃ ys, H5 D = some (.lst ys) ∧ ys.length < sizeLine ∧ N (some (.int (lo + i)) :: frV fr σ) (upd H5 D (.lst (ys ++ [v]))) else N (some (.int (lo + i)) :: frV fr σ) H4)
    (fin : ∀ ys H', Pv n ys H' → H' D = some (.lst ys) → Q (.ref D) H') :
    ∃ W : Nat → Nat → St → Hp → Prop, (∃ m, W 0 m (startC 1 fr σ) (upd H1 D (.lst []))) ∧
      ∀ i m σ' H', W i m σ' H' → ((Itr lo n).stop i H' ∧ Q (.ref D) H') ∨ ((Itr lo n).go i H' ∧ ∃ N : St → Hp → Prop, (∀ σ2 H2, N σ2 H2 → ∃ m', m' < m ∧ W (i + 1) m' σ2 H2) ∧
        ∀ x H2, (Itr lo n).yld i H' x H2 → gName 0 x σ' H2 fun σ2 H3 => tt σ2 H3 fun b H4 => if b = true then te σ2 H4 fun v H5 => ∃ ys, H5 D = some (.lst ys) ∧ ys.length < sizeLine ∧ N σ2 (upd H5 D (.lst (ys ++ [v]))) else N σ2 H4) := by
  refine comp_by n Pv hn h0 (fun i ys H' hi _ => hi) (fun ys H' _ => Nat.le_refl _) (fun i ys H' o N hi ho hP hd hys kT kF x H2 y => ?_) fin
  obtain ⟨rfl, rfl⟩ := y
  match o, ho with
  | [o1], _ => exact step i ys _ N hi hP hd hys (fun v H5 p => kT [some (.int (lo + i))] v H5 rfl p) (fun H5 d p => kF [some (.int (lo + i))] H5 rfl d p)
theorem tComp_range {n : Nat} {fr : List Nat} {ta : TA} {tt : TT} {te : TE} {σ : St} {H : Hp} {Q : VK} (Pv : Addr → Nat → List V → Hp → Prop) (h : ∀ Q' : List V → Hp → Prop, Q' [.int (n : Int)] H → ta σ H Q') (hn : n ≤ 1000) (h0 : ∀ D, H D = none → Pv D 0 [] (upd H D (.lst [])))
    (step : ∀ D, H D = none → ∀ i ys H' (N : St → Hp → Prop), i < n → Pv D i ys H' → H' D = some (.lst ys) → ys.length < sizeLine →
      (∀ v H5, Pv D (i + 1) (ys ++ [v]) (upd H5 D (.lst (ys ++ [v]))) → N (some (.int (i : Int)) :: frV fr σ) (upd H5 D (.lst (ys ++ [v])))) → (∀ H5, H5 D = some (.lst ys) → Pv D (i + 1) ys H5 → N (some (.int (i : Int)) :: frV fr σ) H5) →
      tt (some (.int (i : Int)) :: frV fr σ) H' fun b H4 => if b = true then te (some (.int (i : Int)) :: frV fr σ) H4 fun v H5 => ∃ ys, H5 D = some (.lst ys) ∧ ys.length < sizeLine ∧ N (some (.int (i : Int)) :: frV fr σ) (upd H5 D (.lst (ys ++ [v]))) else N (some (.int (i : Int)) :: frV fr σ) H4)
    (fin : ∀ D, H D = none → ∀ ys H', Pv D n ys H' → H' D = some (.lst ys) → Q (.ref D) H') : tComp 1 fr (iRng1 ta) (gName 0) tt te σ H Q :=
  h _ ⟨(n : Int), rfl, by omega, by omega, fun D hD => comp_range (lo := 0) (n := n) (Pv D) (small1000 hn) (h0 D hD) (fun i ys H' N hi hP hd hys kT kF => by
    have e : (0 : Int) + (i : Int) = (i : Int) := by omega
    rw [e] at kT kF ⊢
    exact step D hD i ys H' N hi hP hd hys kT kF) (fin D hD)⟩
end L2
namespace L2
open PySem PySem.Spec PyProof.Rows
end L2
namespace RC
open PySem
def edge (a b : Deed) : Prop := a.1 = b.1 ∨ (a.2.1 = W.fork ∧ (b.1 = a.2.2 ∨ (b.2.1 = W.wait ∧ b.2.2 = a.2.2))) ∨ (b.2.1 = W.wait ∧ b.2.2 = a.1) ∨ (a.2.1 = W.give ∧ b.2.1 = W.take ∧ a.2.2 = b.2.2)
instance (a b : Deed) : Decidable (edge a b) := by unfold edge; infer_instance
def pre (D : Nat → Deed) (i : Nat) : List Deed := (List.range i).map D
section
variable {D : Nat → Deed} {n : Nat} {N : Nat → Int → Nat}
def cnt (p : Nat → Bool) : Nat → Nat
  | 0 => 0
  | k + 1 => cnt p k + (if p k = true then 1 else 0)
end
end RC
namespace RC
open PySem
structure CS where
  reached : Int → Int → Nat
  given : Int → Option (Int → Nat)
def cs0 : CS := ⟨fun _ _ => 0, fun _ => none⟩
def clk1 (s : CS) (d : Deed) : Int → Nat := if d.2.1 = W.take then (match s.given d.2.2 with | some g => fun u => max (s.reached d.1 u) (g u) | none => s.reached d.1) else s.reached d.1
def clk2 (s : CS) (d : Deed) : Int → Nat := if d.2.1 = W.wait then fun u => max (clk1 s d u) (s.reached d.2.2 u) else clk1 s d
def clk (s : CS) (d : Deed) : Int → Nat := fun u => if u = d.1 then clk2 s d u + 1 else clk2 s d u
def stepC (s : CS) (d : Deed) : CS :=
  ⟨fun t => if d.2.1 = W.fork ∧ t = d.2.2 then clk s d else if t = d.1 then clk s d else s.reached t, fun x => if d.2.1 = W.give ∧ x = d.2.2 then some (clk s d) else s.given x⟩
def csOf (ds : List Deed) : CS := ds.foldl stepC cs0
def NC (D : Nat → Deed) (k : Nat) : Int → Nat := clk (csOf (pre D k)) (D k)
section
variable {D : Nat → Deed} {n : Nat}
def I2 (D : Nat → Deed) (i : Nat) : Prop := ∀ t, (∃ L, L < i ∧ (D L).1 = t ∧ (∀ j, L < j → j < i → (D j).1 ≠ t) ∧ (csOf (pre D i)).reached t = NC D L) ∨
  ((∀ j, j < i → (D j).1 ≠ t) ∧ ((∃ f, f < i ∧ (D f).2.1 = W.fork ∧ (D f).2.2 = t ∧ (csOf (pre D i)).reached t = NC D f) ∨ ((∀ f, f < i → ¬ ((D f).2.1 = W.fork ∧ (D f).2.2 = t)) ∧ (csOf (pre D i)).reached t = fun _ => 0)))
def I3 (D : Nat → Deed) (i : Nat) : Prop := ∀ x, ((csOf (pre D i)).given x = none ∧ ∀ j, j < i → ¬ ((D j).2.1 = W.give ∧ (D j).2.2 = x)) ∨
  ∃ g, g < i ∧ (D g).2.1 = W.give ∧ (D g).2.2 = x ∧ (∀ j, g < j → j < i → ¬ ((D j).2.1 = W.give ∧ (D j).2.2 = x)) ∧ (csOf (pre D i)).given x = some (NC D g)
end
end RC
namespace RC
open PySem L2
def dAt (ds : List Deed) (k : Nat) : Deed := ds.getD k (0, "", 0)
theorem dAt_get {ds : List Deed} {k : Nat} (h : k < ds.length) : ds[k]? = some (dAt ds k) := by
  unfold dAt
  rw [List.getD_eq_getElem?_getD]
  simp [h]
theorem dAt_of {ds : List Deed} {k : Nat} {d : Deed} (h : ds[k]? = some d) : dAt ds k = d := by
  unfold dAt
  rw [List.getD_eq_getElem?_getD, h]
  rfl
theorem form_of {m : Int} {ds : List Deed} (h : Fault m ds none) {k : Nat} (hk : k < ds.length) : (0 ≤ (dAt ds k).1 ∧ (dAt ds k).1 < m) ∧ 0 ≤ (dAt ds k).2.2 ∧ ((dAt ds k).2.1 = W.fork ∨ (dAt ds k).2.1 = W.wait → (dAt ds k).2.2 < m) := by
  have f := h k _ (dAt_get hk)
  unfold faultOf at f
  rw [Option.or_eq_none_iff] at f
  have f1 := f.1
  unfold form at f1
  by_cases z1 : ¬ (0 ≤ (dAt ds k).1 ∧ (dAt ds k).1 < m)
  · rw [if_pos z1] at f1; cases f1
  · rw [if_neg z1] at f1
    refine ⟨Classical.byContradiction z1, ?_⟩
    split at f1
    · cases f1
    · split at f1
      · cases f1
      · next q =>
        refine ⟨Int.not_lt.mp fun z => q (.inl z), fun z => Int.not_le.mp fun y => q (.inr ⟨z, y⟩)⟩
end RC
namespace L2
open PySem
section
variable {tt : TT} {σ : St} {H : Hp} {D : Ends} {rest body els : TS}
theorem PuT.ifsJ {c : Prop} [Decidable c] (J : St → Hp → Prop) (h : PuT tt σ H (decide c)) (h1 : c → ∀ N : St → Hp → Prop, (∀ σ' H', J σ' H' → N σ' H') → body { D with nx := N } σ H) (h2 : ¬ c → J σ H) (hr : ∀ σ' H', J σ' H' → rest D σ' H') : tSeq (tIfS tt body tNext) rest D σ H :=
  h.ifs (fun z => h1 z _ hr) fun z => hr _ _ (h2 z)
theorem PuS.ifsJ {c : Prop} [Decidable c] (J : St → Hp → Prop) (h : PuS tt σ H (decide c)) (h1 : ∀ H', Same H H' → c → ∀ N : St → Hp → Prop, (∀ σ' H'', J σ' H'' → N σ' H'') → body { D with nx := N } σ H') (h2 : ∀ H', Same H H' → ¬ c → J σ H') (hr : ∀ σ' H', J σ' H' → rest D σ' H') : tSeq (tIfS tt body tNext) rest D σ H :=
  h.ifs (fun H' s z => h1 H' s z _ hr) fun H' s z => hr _ _ (h2 H' s z)
end
end L2
namespace L2
open PySem
theorem setComp_range {n : Nat} {fr : List Nat} {ta : TA} {tt : TT} {te : TE} {σ : St} {H : Hp} {j : Nat} {rest : TS} {De : Ends} (Pv : Addr → Nat → List V → Hp → Prop) (h : ∀ Q' : List V → Hp → Prop, Q' [.int (n : Int)] H → ta σ H Q') (hn : n ≤ 1000) (h0 : ∀ D, H D = none → Pv D 0 [] (upd H D (.lst [])))
    (step : ∀ D, H D = none → ∀ i ys H' (N : St → Hp → Prop), i < n → Pv D i ys H' → H' D = some (.lst ys) → ys.length < sizeLine →
      (∀ v H5, Pv D (i + 1) (ys ++ [v]) (upd H5 D (.lst (ys ++ [v]))) → N (some (.int (i : Int)) :: frV fr σ) (upd H5 D (.lst (ys ++ [v])))) → (∀ H5, H5 D = some (.lst ys) → Pv D (i + 1) ys H5 → N (some (.int (i : Int)) :: frV fr σ) H5) →
      tt (some (.int (i : Int)) :: frV fr σ) H' fun b H4 => if b = true then te (some (.int (i : Int)) :: frV fr σ) H4 fun v H5 => ∃ ys, H5 D = some (.lst ys) ∧ ys.length < sizeLine ∧ N (some (.int (i : Int)) :: frV fr σ) (upd H5 D (.lst (ys ++ [v]))) else N (some (.int (i : Int)) :: frV fr σ) H4)
    (fin : ∀ D, H D = none → ∀ ys H', Pv D n ys H' → H' D = some (.lst ys) → rest De (σ.set j (some (.ref D))) H') : tSeq (tAsg (tComp 1 fr (iRng1 ta) (gName 0) tt te) (gName j)) rest De σ H := by
  show tComp 1 fr (iRng1 ta) (gName 0) tt te σ H fun x H1 => rest De (σ.set j (some x)) H1
  exact tComp_range (Q := fun x H1 => rest De (σ.set j (some x)) H1) Pv h hn h0 step fin
theorem Same.put2 {H0 H : Hp} {a : Addr} {o : HO} (s : Same H0 H) (h : H0 a = none) : Same H0 (upd H a o) := fun b u e => by rw [upd_ne (ne_of_none e h)]; exact s b u e
end L2
namespace L2
open PySem
theorem setComp_rangeF {n : Nat} {fr : List Nat} {ta : TA} {tt : TT} {te : TE} {σ : St} {H : Hp} {j : Nat} {rest : TS} {De : Ends} (p : Nat → Bool) (f : Nat → V) (h : ∀ Q' : List V → Hp → Prop, Q' [.int (n : Int)] H → ta σ H Q') (hn : n ≤ 1000)
    (ht : ∀ D, H D = none → ∀ i ys (Qt : Bool → Hp → Prop), i < n → Qt (p i) (upd H D (.lst ys)) → tt (some (.int (i : Int)) :: frV fr σ) (upd H D (.lst ys)) Qt)
    (he : ∀ D, H D = none → ∀ i ys (Qe : VK), i < n → p i = true → Qe (f i) (upd H D (.lst ys)) → te (some (.int (i : Int)) :: frV fr σ) (upd H D (.lst ys)) Qe)
    (fin : ∀ D, H D = none → rest De (σ.set j (some (.ref D))) (upd H D (.lst (((List.range n).filter p).map f)))) : tSeq (tAsg (tComp 1 fr (iRng1 ta) (gName 0) tt te) (gName j)) rest De σ H := by
  refine setComp_range (fun D i ys H' => ys = ((List.range i).filter p).map f ∧ H' = upd H D (.lst ys)) h hn (fun D hD => ⟨rfl, rfl⟩) (fun D hD i ys H' N hi ⟨ey, eH⟩ hd hys kT kF => ?_) (fun D hD ys H' ⟨ey, eH⟩ hd => ?_)
  · subst eH
    refine ht D hD i ys _ hi ?_
    cases hp : p i with
    | false =>
      refine iteF (kF _ upd_same ⟨?_, rfl⟩)
      rw [ey, List.range_succ, List.filter_append]
      simp [hp]
    | true =>
      refine iteT (he D hD i ys _ hi hp ⟨ys, upd_same, hys, kT (f i) _ ⟨?_, ?_⟩⟩)
      · rw [ey, List.range_succ, List.filter_append]
        simp [hp]
      · rw [upd_upd]
  · subst eH ey
    exact fin D hD
end L2
namespace RC
open PySem L2
def bvV (n : Nat) (f : Nat → Bool) : List V := (List.range n).map fun (i : Nat) => V.bl (f i)
theorem bvV_len (n : Nat) (f : Nat → Bool) : (bvV n f).length = n := by unfold bvV; simp
theorem bvV_get {n : Nat} {f : Nat → Bool} {i : Nat} (h : i < n) : (bvV n f)[i]? = some (V.bl (f i)) := by
  unfold bvV
  rw [List.getElem?_map, List.getElem?_range h]
  rfl
theorem bvV_set {n : Nat} {f : Nat → Bool} {t : Nat} (h : t < n) (x : Bool) : (bvV n f).set t (V.bl x) = bvV n (fun u => if u = t then x else f u) := by
  refine List.ext_getElem? fun i => ?_
  rw [List.getElem?_set]
  by_cases e : t = i
  · subst e
    rw [if_pos rfl, bvV_get h, bvV_len, if_pos h, if_pos rfl]
  · rw [if_neg e]
    by_cases hi : i < n
    · rw [bvV_get hi, bvV_get hi, if_neg (fun z => e z.symm)]
    · rw [List.getElem?_eq_none (by rw [bvV_len]; omega), List.getElem?_eq_none (by rw [bvV_len]; omega)]
theorem bvV_congr {n : Nat} {f g : Nat → Bool} (h : ∀ i, i < n → f i = g i) : bvV n f = bvV n g := by
  unfold bvV
  refine List.map_congr_left fun i hi => ?_
  rw [h i (by simpa using hi)]
theorem flat_false (m : Nat) : (List.replicate m [V.bl false]).flatten = bvV m (fun _ => false) := by
  induction m with
  | zero => rfl
  | succ m ih =>
    rw [List.replicate_succ, List.flatten_cons, ih]
    unfold bvV
    rw [List.range_succ_eq_map, List.map_cons, List.map_map]
    rfl
theorem filt_true {α β : Type} (l : List α) (f : α → β) : (l.filter fun _ => true).map f = l.map f := by rw [List.filter_eq_self.mpr (fun _ _ => rfl)]
theorem Deeds.ref {H : Hp} {xs : List V} {ds : List Deed} (h : Deeds H xs ds) {i : Nat} (hi : i < ds.length) : ∃ r, xs[i]? = some (.ref r) ∧ H r = some (.tup [.int (dAt ds i).1, .str (dAt ds i).2.1, .int (dAt ds i).2.2]) := h.at (dAt_get hi)
end RC
namespace RC
open PySem
section
variable {m : Int} {D : Nat → Deed} {n : Nat}
end
end RC
namespace RC
open PySem
section
variable {m : Int} {D : Nat → Deed} {n : Nat} {p : Nat → Nat}
end
def clash (a b : Deed) : Prop := a.1 ≠ b.1 ∧ a.2.2 = b.2.2 ∧ ((a.2.1 = W.write ∧ (b.2.1 = W.read ∨ b.2.1 = W.write)) ∨ (b.2.1 = W.write ∧ (a.2.1 = W.read ∨ a.2.1 = W.write)))
end RC
namespace RC
open PySem
section
variable {m : Int} {D : Nat → Deed} {n : Nat}
end
end RC
namespace RC
open PySem
instance (a b : Deed) : Decidable (clash a b) := by unfold clash; infer_instance
end RC
namespace RC
open PySem
theorem snoc_ind2 {α : Type} {P : List α → Prop} (nil : P []) (append_singleton : ∀ l a, P l → P (l ++ [a])) (l : List α) : P l := by
  have : ∀ r : List α, P r.reverse := fun r => by
    induction r with
    | nil => exact nil
    | cons a r ih => rw [List.reverse_cons]; exact append_singleton _ _ ih
  have h := this l.reverse
  rwa [List.reverse_reverse] at h
def hstep (l : Int → List Int) (d : Deed) : Int → List Int := fun t => if t = d.1 then (if d.2.1 = W.take then l t ++ [d.2.2] else if d.2.1 = W.give then (l t).filter (fun x => decide (x ≠ d.2.2)) else l t) else l t
def holds (ds : List Deed) : Int → List Int := ds.foldl hstep fun _ => []
theorem holds_snoc (ds : List Deed) (d : Deed) : holds (ds ++ [d]) = hstep (holds ds) d := by
  unfold holds
  rw [List.foldl_append]
  rfl
theorem holds_len (ds : List Deed) (t : Int) : (holds ds t).length ≤ ds.length := by
  induction ds using snoc_ind2 with
  | nil => exact Nat.le_refl _
  | append_singleton ds d ih =>
    rw [holds_snoc, List.length_append]
    unfold hstep
    show _ ≤ ds.length + 1
    split
    · split
      · rw [List.length_append]; simpa using ih
      · split
        · have := List.length_filter_le (fun x => decide (x ≠ d.2.2)) (holds ds t); omega
        · omega
    · omega
structure HoldOk (ds : List Deed) : Prop where
  mem : ∀ t x, x ∈ holds ds t ↔ (stOf ds).hold x = some t
  nd : ∀ t, (holds ds t).Nodup
theorem faultOf_wo {m : Int} {s : Pst} {d : Deed} (h : faultOf m s d = none) : woF s d = none := by
  unfold faultOf stF at h
  rw [Option.or_eq_none_iff, Option.or_eq_none_iff] at h
  exact h.2.2
theorem wo_take {s : Pst} {d : Deed} (h : woF s d = none) (e : d.2.1 = W.take) : s.hold d.2.2 = none := by
  unfold woF at h
  cases q : s.hold d.2.2 with
  | none => rfl
  | some t =>
    rw [if_pos ⟨e, by rw [q]; rfl⟩] at h
    cases h
theorem wo_give {s : Pst} {d : Deed} (h : woF s d = none) (e : d.2.1 = W.give) : s.hold d.2.2 = some d.1 := by
  unfold woF at h
  rw [if_neg (fun z => nTG (z.1.symm.trans e))] at h
  by_cases q : s.hold d.2.2 = some d.1
  · exact q
  · rw [if_pos ⟨e, q⟩] at h
    cases h
theorem hold_snoc (ds : List Deed) (d : Deed) (x : Int) : (stOf (ds ++ [d])).hold x = if x = d.2.2 ∧ d.2.1 = W.take then some d.1 else if x = d.2.2 ∧ d.2.1 = W.give then none else (stOf ds).hold x := by
  rw [stOf_snoc]
  rfl
theorem holdOk {m : Int} {ds : List Deed} (h : Fault m ds none) : HoldOk ds := by
  induction ds using snoc_ind2 with
  | nil =>
    refine ⟨fun t x => ⟨fun z => (by cases z), fun z => (by cases z)⟩, fun t => List.nodup_nil⟩
  | append_singleton ds d ih =>
    have h1 : Fault m ds none := by
      have := h.take ds.length
      rwa [List.take_append_of_le_length (Nat.le_refl _), List.take_length] at this
    have hf : faultOf m (stOf ds) d = none := by
      have := h ds.length d (by rw [List.getElem?_append_right (Nat.le_refl _)]; simp)
      rwa [List.take_append_of_le_length (Nat.le_refl _), List.take_length] at this
    have wo := faultOf_wo hf
    obtain ⟨im, ind⟩ := ih h1
    refine ⟨fun t x => ?_, fun t => ?_⟩
    · rw [holds_snoc, hold_snoc]
      unfold hstep
      by_cases e1 : d.2.1 = W.take
      · have hn := wo_take wo e1
        by_cases et : t = d.1
        · rw [if_pos et, if_pos e1, List.mem_append, List.mem_singleton, im t x]
          by_cases ex : x = d.2.2
          · rw [if_pos ⟨ex, e1⟩]
            exact ⟨fun _ => by rw [et], fun _ => .inr ex⟩
          · rw [if_neg (fun z => ex z.1), if_neg (fun z => ex z.1)]
            exact ⟨fun z => z.elim id (fun z => absurd z ex), .inl⟩
        · rw [if_neg et, im t x]
          by_cases ex : x = d.2.2
          · rw [if_pos ⟨ex, e1⟩, ex, hn]
            exact ⟨fun z => (by cases z), fun z => absurd (Option.some.inj z).symm et⟩
          · rw [if_neg (fun z => ex z.1), if_neg (fun z => ex z.1)]
      · by_cases e2 : d.2.1 = W.give
        · have hg := wo_give wo e2
          by_cases et : t = d.1
          · rw [if_pos et, if_neg e1, if_pos e2, List.mem_filter, im t x, decide_eq_true_iff]
            by_cases ex : x = d.2.2
            · rw [if_neg (fun z => e1 z.2), if_pos ⟨ex, e2⟩]
              exact ⟨fun z => absurd ex z.2, fun z => by cases z⟩
            · rw [if_neg (fun z => ex z.1), if_neg (fun z => ex z.1)]
              exact ⟨fun z => z.1, fun z => ⟨z, ex⟩⟩
          · rw [if_neg et, im t x]
            by_cases ex : x = d.2.2
            · rw [if_neg (fun z => e1 z.2), if_pos ⟨ex, e2⟩, ex, hg]
              exact ⟨fun z => absurd (Option.some.inj z).symm et, fun z => by cases z⟩
            · rw [if_neg (fun z => ex z.1), if_neg (fun z => ex z.1)]
        · by_cases et : t = d.1
          · rw [if_pos et, if_neg e1, if_neg e2, if_neg (fun z => e1 z.2), if_neg (fun z => e2 z.2)]; exact im t x
          · rw [if_neg et, if_neg (fun z => e1 z.2), if_neg (fun z => e2 z.2)]; exact im t x
    · rw [holds_snoc]
      unfold hstep
      by_cases et : t = d.1
      · rw [if_pos et]
        by_cases e1 : d.2.1 = W.take
        · rw [if_pos e1]
          refine List.nodup_append.mpr ⟨ind t, by simp, fun a ha b hb e => ?_⟩
          rw [List.mem_singleton] at hb
          subst hb
          subst e
          have := (im t d.2.2).mp ha
          rw [wo_take wo e1] at this
          cases this
        · rw [if_neg e1]
          by_cases e2 : d.2.1 = W.give
          · rw [if_pos e2]; exact (ind t).sublist List.filter_sublist
          · rw [if_neg e2]; exact ind t
      · rw [if_neg et]; exact ind t
def srtI (ns : List Int) : List Int := ns.mergeSort fun a b => decide (a ≤ b)
theorem srtI_perm (ns : List Int) : (srtI ns).Perm ns := List.mergeSort_perm _ _
theorem srtI_sorted (ns : List Int) : (srtI ns).Pairwise (· ≤ ·) := by
  have := List.pairwise_mergeSort (le := fun a b : Int => decide (a ≤ b)) (fun a b c h1 h2 => by
    rw [decide_eq_true_iff] at h1 h2 ⊢
    omega) (fun a b => by
    rw [Bool.or_eq_true, decide_eq_true_iff, decide_eq_true_iff]
    omega) ns
  exact this.imp (fun h => of_decide_eq_true h)
theorem srtI_eq {ns ms : List Int} (hp : ms.Perm ns) (hs : ms.Pairwise (· ≤ ·)) : ms = srtI ns :=
  List.Perm.eq_of_pairwise (fun a b _ _ h1 h2 => Int.le_antisymm h1 h2) hs (srtI_sorted ns) (hp.trans (srtI_perm ns).symm)
def heldAt (ds : List Deed) (k : Nat) : List Int := srtI (holds (ds.take k) (ds.getD k (0, "", 0)).1)
theorem heldAt_len {ds : List Deed} {k : Nat} : (heldAt ds k).length ≤ ds.length := by
  unfold heldAt
  rw [(srtI_perm _).length_eq]
  refine Nat.le_trans (holds_len _ _) ?_
  rw [List.length_take]
  omega
end RC
namespace L2
open PySem PySem.Spec PyProof.Rows
theorem ints_of_vals : ∀ {ns : List Int} {its : List Value}, Vals (ns.map V.int) its → IntsAre its ns
  | [], _, .nil => .nil
  | n :: ns, _, .cons r t => by
    obtain ⟨tk, rfl⟩ := r
    exact .cons n tk (ints_of_vals t)
theorem vals_of_ints : ∀ {ns : List Int} {its : List Value}, IntsAre its ns → Vals (ns.map V.int) its
  | _, _, .nil => .nil
  | _, _, .cons n t h => .cons ⟨t, rfl⟩ (vals_of_ints h)
theorem call_sorted {X : Cx} : CallR X (.builtin "sorted") (fun xs H Q => ∃ (p : Addr) (ns : List Int), xs = [.ref p] ∧ SqL X.K H p (ns.map V.int) ∧ ns.length < 64 ∧
    ∀ (l : Addr) (ns' : List Int), ns'.Perm ns → ns'.Pairwise (· ≤ ·) → H l = none → Q (.ref l) (upd H l (.lst (ns'.map V.int)))) := by
  intro pins s σ H xs us Q I r h
  obtain ⟨p, ns, rfl, hq, h64, q⟩ := h
  obtain ⟨u, rfl, rx⟩ := vals1 r
  cases rx
  obtain ⟨its, rv, pl, hz⟩ := I.list hq
  have hl : its.length = ns.length := by rw [← rv.length, List.length_map]
  refine sorted_ints pl.isList (ints_of_vals rv) (by omega) fun out ns' hI hp hs => ?_
  obtain ⟨e, he⟩ := sortedAll_at s.heap its out
  have hn : H (s.heap.objs.size + 1) = none := I.hok.fresh (Nat.le_succ _)
  refine ⟨.ref (s.heap.objs.size + 1), _, I.laid (t' := s.toks) (a := s.heap.objs.size + 1) (o := .lst (ns'.map V.int)) (fun b o e => sortedAll_old e) (Nat.le_succ _) ?_, rfl, q _ ns' hp hs hn⟩
  refine ⟨?_, out.toList, e, vals_of_ints hI, he⟩
  have h1 := hp.length_eq
  rw [List.length_map, h1]
  have : (64 : Nat) ≤ sizeLine := by decide
  omega
end L2
namespace L2
open PySem PySem.Spec PyProof.Rows
end L2
namespace L2
open PySem PySem.Spec PyProof.Rows
def eqI (k : Int) : Value → Bool
  | .int a _ => a == k
  | _ => false
end L2
namespace L2
open PySem
def CompG (K : PySem.W.Frag) (nt : Nat) (fr : List Nat) (g : TG) (tt : TT) (te : TE) (σ : St) (H1 : Hp) (Q : VK) (a : Addr) : Prop :=
  ∀ D, H1 D = none → ∃ W : Nat → Nat → St → Hp → Prop, (∃ m, W 0 m (startC nt fr σ) (upd H1 D (.lst []))) ∧
      ∀ i m σ' H', W i m σ' H' → ((Itl K a).stop i H' ∧ Q (.ref D) H') ∨ ((Itl K a).go i H' ∧ ∃ N : St → Hp → Prop, (∀ σ2 H2, N σ2 H2 → ∃ m', m' < m ∧ W (i + 1) m' σ2 H2) ∧
        ∀ x H2, (Itl K a).yld i H' x H2 → g x σ' H2 fun σ2 H3 => tt σ2 H3 fun b H4 => if b = true then te σ2 H4 fun v H5 => ∃ ys, H5 D = some (.lst ys) ∧ ys.length < sizeLine ∧ N σ2 (upd H5 D (.lst (ys ++ [v]))) else N σ2 H4)
theorem tComp_iff {K : PySem.W.Frag} {nt : Nat} {fr : List Nat} {tl : TE} {g : TG} {tt : TT} {te : TE} {σ : St} {H : Hp} {Q : VK} :
    tComp nt fr (iList K tl) g tt te σ H Q = tl σ H (fun x H1 => ∃ a, x = .ref a ∧ (∃ xs, SqL K H1 a xs) ∧ CompG K nt fr g tt te σ H1 Q a) := rfl
theorem comp_listG {K : PySem.W.Frag} {nt : Nat} {fr : List Nat} {g : TG} {tt : TT} {te : TE} {σ : St} {H1 : Hp} {Q : VK} {a : Addr} {xs : List V} (Pv : Addr → Nat → List V → Hp → Prop) (hz : xs.length < sizeLine) (h0 : ∀ D, H1 D = none → Pv D 0 [] (upd H1 D (.lst [])))
    (hk : ∀ D i ys H', H1 D = none → Pv D i ys H' → SqL K H' a xs)
    (step : ∀ D i x ys H' (o : St) (N : St → Hp → Prop), H1 D = none → xs[i]? = some x → o.length = nt → Pv D i ys H' → H' D = some (.lst ys) → ys.length < sizeLine →
      (∀ (o2 : St) v H5, o2.length = nt → Pv D (i + 1) (ys ++ [v]) (upd H5 D (.lst (ys ++ [v]))) → N (o2 ++ frV fr σ) (upd H5 D (.lst (ys ++ [v])))) → (∀ (o2 : St) H5, o2.length = nt → H5 D = some (.lst ys) → Pv D (i + 1) ys H5 → N (o2 ++ frV fr σ) H5) →
      g x (o ++ frV fr σ) H' fun σ2 H3 => tt σ2 H3 fun b H4 => if b = true then te σ2 H4 fun v H5 => ∃ ys, H5 D = some (.lst ys) ∧ ys.length < sizeLine ∧ N σ2 (upd H5 D (.lst (ys ++ [v]))) else N σ2 H4)
    (fin : ∀ D ys H', H1 D = none → Pv D xs.length ys H' → H' D = some (.lst ys) → Q (.ref D) H') : CompG K nt fr g tt te σ H1 Q a := fun D hD =>
  comp_by (J := Itl K a) xs.length (Pv D) hz (h0 D hD) (fun i ys H' hi hP => ⟨xs, xs[i], hk D i ys H' hD hP, by simp [hi]⟩) (fun ys H' hP => ⟨xs, hk D _ ys H' hD hP, Nat.le_refl _⟩)
    (fun i ys H' o N hi ho hP hd hys kT kF x H2 y => by
      obtain ⟨e, y⟩ := y
      subst e
      exact step D i x ys H2 o N hD (y xs (hk D i ys H2 hD hP)) ho hP hd hys kT kF) (fun ys H' => fin D ys H' hD)
theorem filter_take_snoc {α : Type} {ps : List α} {i : Nat} {q : α} (pb : α → Bool) (e : ps[i]? = some q) : (ps.take (i + 1)).filter pb = if pb q = true then (ps.take i).filter pb ++ [q] else (ps.take i).filter pb := by
  rw [take_snoc e, List.filter_append]
  cases hp : pb q with
  | true => rw [if_pos rfl]; simp [hp]
  | false => rw [if_neg (by decide)]; simp [hp]
end L2
namespace L2
open PySem RC
end L2
namespace L2
open PySem PySem.Spec PyProof.Rows
theorem map_eraseIdx' {α β : Type} (f : α → β) : ∀ (l : List α) (j : Nat), (l.map f).eraseIdx j = (l.eraseIdx j).map f
  | [], _ => rfl
  | _ :: _, 0 => rfl
  | a :: l, j + 1 => by
    show f a :: (l.map f).eraseIdx j = f a :: (l.eraseIdx j).map f
    rw [map_eraseIdx' f l j]
def rRemove : V → List V → Hp → VK → Prop := fun x vs H Q => ∃ (l : Addr) (ns : List Int) (k : Int) (j : Nat), x = .ref l ∧ vs = [.int k] ∧ H l = some (.lst (ns.map V.int)) ∧ ns[j]? = some k ∧ (∀ i, i < j → ns[i]? ≠ some k) ∧ Q .non (upd H l (.lst ((ns.eraseIdx j).map V.int)))
theorem mt_remove {X : Cx} : MtM X "list.remove" rRemove := by
  intro pins s σ H x vs v us Q I rx rv h
  obtain ⟨l, ns, k, j, rfl, rfl, hH, hj, hno, q⟩ := h
  cases rx
  obtain ⟨u, rfl, ru⟩ := rv.one
  obtain ⟨t, rfl⟩ := ru
  obtain ⟨z, its, n, r, hl, e⟩ := I.lstM hH
  have hjl : j < ns.length := (List.getElem?_eq_some_iff.mp hj).1
  have hl' : its.length = ns.length := by rw [← hl, List.length_map]
  have at_ : ∀ (i : Nat) (hi : i < its.toArray.size), ∃ a t', its.toArray[i] = Value.int a t' ∧ ns[i]? = some a := fun i hi => by
    have hi' : i < its.length := by simpa using hi
    have hn : i < ns.length := by omega
    obtain ⟨w', ew, t', rw'⟩ := r.get (i := i) (x := V.int ns[i]) (by rw [List.getElem?_map]; simp [hn])
    refine ⟨ns[i], t', ?_, by simp [hn]⟩
    rw [List.getElem?_eq_getElem hi'] at ew
    rw [← rw']
    simpa using Option.some.inj ew
  have all : ∀ y, y ∈ its.toArray → PySem.MeetsSeq.EqGives y (.int k t) (eqI k y) := fun y hy => by
    obtain ⟨i, hi, rfl⟩ := Array.getElem_of_mem hy
    obtain ⟨a, t', ea, _⟩ := at_ i hi
    rw [ea]
    exact PySem.MeetsSeq.EqGives.int a k t' t
  have sz : its.toArray.size = ns.length := by simpa using hl'
  have szl : its.toArray.size ≤ sizeLine := by rw [sz]; rw [List.length_map] at z; exact z
  refine call_meets F.slot_list_remove ⟨_, e, rfl⟩ F.entry_list_remove (F.args_list_remove_2 _ _) (PySem.MeetsSeq.list_remove l its.toArray n (.int k t) (eqI k) all j (by omega) ?_ ?_ szl) ⟨e, ?_⟩
  · obtain ⟨a, t', ea, en⟩ := at_ j (by omega)
    rw [ea]
    rw [hj] at en
    cases en
    show (k == k) = true
    simp
  · intro i hi hij
    obtain ⟨a, t', ea, en⟩ := at_ i hi
    rw [ea]
    show (a == k) = false
    simp only [beq_eq_false_iff_ne]
    intro z
    subst z
    exact hno i hij en
  · refine ⟨.non, _, I.lset (its' := its.eraseIdx j) hH e ?_ ?_ ?_, rfl, q⟩
    · show its.toArray.eraseIdxIfInBounds j = (its.eraseIdx j).toArray
      rw [List.eraseIdxIfInBounds_toArray]
    · have := r.eraseIdx j
      rw [← map_eraseIdx']
      exact this
    · rw [List.length_map]
      have := List.length_eraseIdx_le ns j
      rw [List.length_map] at z
      omega
end L2
namespace L2
open PySem RC
theorem comp_intsF {K : PySem.W.Frag} {fr : List Nat} {tt : TT} {σ : St} {H1 : Hp} {Q : VK} {a : Addr} {ns : List Int} (pb : Int → Bool) (hz : ns.length < sizeLine) (ha : SqL K H1 a (ns.map V.int))
    (ht : ∀ n ∈ ns, ∀ H', Same H1 H' → ∀ Qt : Bool → Hp → Prop, (∀ H'', Same H' H'' → Qt (pb n) H'') → tt (some (.int n) :: frV fr σ) H' Qt)
    (fin : ∀ D H', H1 D = none → Same H1 H' → H' D = some (.lst ((ns.filter pb).map V.int)) → Q (.ref D) H') :
    CompG K 1 fr (gName 0) tt (tVar 0) σ H1 Q a := by
  refine comp_listG (xs := ns.map V.int) (fun D i ys H' => Same H1 H' ∧ ys = ((ns.take i).filter pb).map V.int) (by rw [List.length_map]; exact hz) (fun D hD => ⟨same_new hD, rfl⟩) (fun D i ys H' hD ⟨s, _⟩ => s.seq ha)
    (fun D i x ys H' o N hD hx ho ⟨s, hP⟩ hd hys kT kF => ?_) (fun D ys H' hD ⟨s, hP⟩ e => fin D H' hD s (by
      rw [e, hP, List.length_map, List.take_length]))
  obtain ⟨n, en, rfl⟩ : ∃ n, ns[i]? = some n ∧ x = V.int n := by
    rw [List.getElem?_map] at hx
    cases e : ns[i]? with
    | none => rw [e] at hx; cases hx
    | some n => rw [e] at hx; exact ⟨n, rfl, (Option.some.inj hx).symm⟩
  match o, ho with
  | [o1], _ =>
    refine ht n (List.mem_of_getElem? en) H' s _ fun H4 s4 => ?_
    have eqf := filter_take_snoc pb en
    cases hb : pb n with
    | true =>
      rw [hb, if_pos rfl] at eqf
      refine iteT ⟨_, rfl, ys, s4 _ _ hd, hys, kT [some (.int n)] (.int n) _ rfl ⟨(s.trans s4).put2 hD, ?_⟩⟩
      rw [eqf, hP, List.map_append]
      rfl
    | false =>
      rw [hb, if_neg (by decide)] at eqf
      refine iteF (kF [some (.int n)] H4 rfl (s4 _ _ hd) ⟨s.trans s4, ?_⟩)
      rw [eqf, hP]
theorem setComp_iff {K : PySem.W.Frag} {nt j : Nat} {fr : List Nat} {tl : TE} {g : TG} {tt : TT} {te : TE} {σ : St} {H : Hp} {rest : TS} {De : Ends} :
    tSeq (tAsg (tComp nt fr (iList K tl) g tt te) (gName j)) rest De σ H = tl σ H (fun x H1 => ∃ a, x = .ref a ∧ (∃ xs, SqL K H1 a xs) ∧ CompG K nt fr g tt te σ H1 (fun v H2 => rest De (σ.set j (some v)) H2) a) := rfl
end L2
namespace K
open PySem L2 RC
structure HInv (H0 H : Hp) (hl ta : Addr) (mn : Nat) (f : Int → List Int) (ds : List Deed) (i : Nat) (rs ts : List Addr) : Prop where
  eh : H hl = some (.lst (rs.map V.ref))
  et : H ta = some (.lst (ts.map V.ref))
  lr : rs.length = mn
  lt : ts.length = i
  nr : rs.Nodup
  nt : ts.Nodup
  vr : ∀ (t : Nat) (a : Addr), rs[t]? = some a → H a = some (.lst ((f (t : Int)).map V.int)) ∧ H0 a = none ∧ a ≠ hl ∧ a ≠ ta
  vt : ∀ (j : Nat) (a : Addr), ts[j]? = some a → H a = some (.lst ((heldAt ds j).map V.int)) ∧ H0 a = none ∧ a ≠ hl ∧ a ≠ ta
  dj : ∀ a ∈ rs, ¬ a ∈ ts
  nhl : H0 hl = none
  nta : H0 ta = none
  hne : hl ≠ ta
section
variable {H0 H H' : Hp} {hl ta : Addr} {mn : Nat} {f : Int → List Int} {ds : List Deed} {i : Nat} {rs ts : List Addr}
theorem HInv.keep (s : Same H H') (g : HInv H0 H hl ta mn f ds i rs ts) : HInv H0 H' hl ta mn f ds i rs ts :=
  ⟨s _ _ g.eh, s _ _ g.et, g.lr, g.lt, g.nr, g.nt, fun t a e => ⟨s _ _ (g.vr t a e).1, (g.vr t a e).2⟩, fun t a e => ⟨s _ _ (g.vt t a e).1, (g.vt t a e).2⟩, g.dj, g.nhl, g.nta, g.hne⟩
theorem HInv.tell {sl : Addr} (g : HInv H0 H hl ta mn f ds i rs ts) (n0 : H0 sl = none) (n1 : ¬ sl ∈ rs) (n2 : ¬ sl ∈ ts) (n3 : sl ≠ hl) (n4 : sl ≠ ta) (e : H sl = some (.lst ((heldAt ds i).map V.int))) :
    HInv H0 (upd H ta (.lst ((ts ++ [sl]).map V.ref))) hl ta mn f ds (i + 1) rs (ts ++ [sl]) := by
  refine ⟨by rw [upd_ne g.hne]; exact g.eh, upd_same, g.lr, by rw [List.length_append, g.lt]; rfl, g.nr, List.nodup_append.mpr ⟨g.nt, by simp, fun a ha b hb z => ?_⟩, fun t a e => ?_, fun j a e' => ?_, fun a ha z => ?_, g.nhl, g.nta, g.hne⟩
  · rw [List.mem_singleton] at hb
    exact n2 (hb ▸ z ▸ ha)
  · obtain ⟨h1, h2, h3, h4⟩ := g.vr t a e
    exact ⟨by rw [upd_ne h4]; exact h1, h2, h3, h4⟩
  · rcases getElem_snoc e' with z | ⟨z1, z2⟩
    · obtain ⟨h1, h2, h3, h4⟩ := g.vt j a z
      exact ⟨by rw [upd_ne h4]; exact h1, h2, h3, h4⟩
    · rw [z2, z1, g.lt]
      exact ⟨by rw [upd_ne n4]; exact e, n0, n3, n4⟩
  · rcases List.mem_append.mp z with z | z
    · exact g.dj a ha z
    · exact n1 (List.mem_singleton.mp z ▸ ha)
theorem getElem_inj' {l : List Addr} (nd : l.Nodup) {s t : Nat} {a : Addr} (h1 : l[s]? = some a) (h2 : l[t]? = some a) : s = t := by
  obtain ⟨hs, e1⟩ := List.getElem?_eq_some_iff.mp h1
  obtain ⟨ht, e2⟩ := List.getElem?_eq_some_iff.mp h2
  exact (List.getElem_inj nd).mp (e1.trans e2.symm)
theorem HInv.put {t : Nat} {a : Addr} {ns : List Int} (g : HInv H0 H hl ta mn f ds i rs ts) (ea : rs[t]? = some a) : HInv H0 (upd H a (.lst (ns.map V.int))) hl ta mn (fun u => if u = (t : Int) then ns else f u) ds i rs ts := by
  obtain ⟨h1, h2, h3, h4⟩ := g.vr t a ea
  refine ⟨by rw [upd_ne h3.symm]; exact g.eh, by rw [upd_ne h4.symm]; exact g.et, g.lr, g.lt, g.nr, g.nt, fun u b e => ?_, fun j b e => ?_, g.dj, g.nhl, g.nta, g.hne⟩
  · obtain ⟨k1, k2, k3, k4⟩ := g.vr u b e
    by_cases z : u = t
    · subst z
      rw [ea] at e
      cases e
      exact ⟨by rw [upd_same, if_pos rfl], k2, k3, k4⟩
    · refine ⟨?_, k2, k3, k4⟩
      rw [upd_ne (fun (q : b = a) => z (getElem_inj' g.nr (by rw [← q]; exact e) ea)), if_neg (by omega)]
      exact k1
  · obtain ⟨k1, k2, k3, k4⟩ := g.vt j b e
    refine ⟨?_, k2, k3, k4⟩
    rw [upd_ne (fun (q : b = a) => g.dj a (List.mem_of_getElem? ea) (by rw [← q]; exact List.mem_of_getElem? e))]
    exact k1
theorem HInv.swap {t : Nat} {a : Addr} {ns : List Int} (g : HInv H0 H hl ta mn f ds i rs ts) (ht : t < mn) (n0 : H0 a = none) (n1 : ¬ a ∈ rs) (n2 : ¬ a ∈ ts) (n3 : a ≠ hl) (n4 : a ≠ ta) (e : H a = some (.lst (ns.map V.int))) :
    HInv H0 (upd H hl (.lst ((rs.set t a).map V.ref))) hl ta mn (fun u => if u = (t : Int) then ns else f u) ds i (rs.set t a) ts := by
  have hmem : ∀ b, b ∈ rs.set t a → b = a ∨ b ∈ rs := fun b hb => (List.mem_or_eq_of_mem_set hb).symm
  refine ⟨upd_same, by rw [upd_ne g.hne.symm]; exact g.et, by rw [List.length_set]; exact g.lr, g.lt, ?_, g.nt, fun u b e' => ?_, fun j b e' => ?_, fun b hb z => ?_, g.nhl, g.nta, g.hne⟩
  · refine List.nodup_iff_pairwise_ne.mpr (List.pairwise_iff_getElem.mpr fun x y hx hy hxy => ?_)
    rw [List.length_set] at hx hy
    rw [List.getElem_set, List.getElem_set]
    by_cases q1 : t = x
    · rw [if_pos q1, if_neg (by omega)]
      exact fun z => n1 (z ▸ List.getElem_mem hy)
    · rw [if_neg q1]
      by_cases q2 : t = y
      · rw [if_pos q2]
        exact fun z => n1 (z ▸ List.getElem_mem hx)
      · rw [if_neg q2]
        exact fun z => absurd ((List.getElem_inj g.nr).mp z) (by omega)
  · rw [List.getElem?_set] at e'
    by_cases z : t = u
    · subst z
      rw [if_pos rfl, if_pos (by rw [g.lr]; exact ht)] at e'
      cases e'
      exact ⟨by rw [upd_ne n3, e, if_pos rfl], n0, n3, n4⟩
    · rw [if_neg z] at e'
      obtain ⟨k1, k2, k3, k4⟩ := g.vr u b e'
      exact ⟨by rw [upd_ne k3, if_neg (by omega)]; exact k1, k2, k3, k4⟩
  · obtain ⟨k1, k2, k3, k4⟩ := g.vt j b e'
    exact ⟨by rw [upd_ne k3]; exact k1, k2, k3, k4⟩
  · rcases hmem b hb with q | q
    · exact n2 (q ▸ z)
    · exact g.dj b q z
theorem HInv.to {f' : Int → List Int} (g : HInv H0 H hl ta mn f ds i rs ts) (e : ∀ t : Nat, t < mn → f (t : Int) = f' (t : Int)) : HInv H0 H hl ta mn f' ds i rs ts :=
  ⟨g.eh, g.et, g.lr, g.lt, g.nr, g.nt, fun t a q => by
    rw [← e t (by rw [← g.lr]; exact (List.getElem?_eq_some_iff.mp q).1)]
    exact g.vr t a q, g.vt, g.dj, g.nhl, g.nta, g.hne⟩
end
theorem erase_at {x : Int} : ∀ {ns : List Int}, x ∈ ns → ns.Nodup → ∃ j : Nat, ns[j]? = some x ∧ (∀ i, i < j → ns[i]? ≠ some x) ∧ ns.eraseIdx j = ns.filter fun y => decide (y ≠ x)
  | [], h, _ => by cases h
  | a :: r, h, nd => by
    obtain ⟨na, nr⟩ := List.nodup_cons.mp nd
    by_cases e : a = x
    · subst e
      refine ⟨0, rfl, fun i hi => absurd hi (Nat.not_lt_zero _), ?_⟩
      show r = _
      rw [List.filter_cons_of_neg (by simp)]
      refine (List.filter_eq_self.mpr fun y hy => ?_).symm
      rw [decide_eq_true_iff]
      intro z
      rw [z] at hy
      exact na hy
    · obtain ⟨j, h1, h2, h3⟩ := erase_at (x := x) (List.mem_of_ne_of_mem (fun z => e z.symm) h) nr
      refine ⟨j + 1, h1, fun i hi => ?_, ?_⟩
      · cases i with
        | zero => exact fun z => e (Option.some.inj z)
        | succ i => exact h2 i (by omega)
      · show a :: r.eraseIdx j = _
        rw [h3, List.filter_cons_of_pos (by simpa using e)]
structure HelT (H0 H : Hp) (r : Addr) (ds : List Deed) (ts : List Addr) : Prop where
  er : H r = some (.lst (ts.map V.ref))
  lt : ts.length = ds.length
  nd : ts.Nodup
  vt : ∀ (j : Nat) (a : Addr), ts[j]? = some a → H a = some (.lst ((heldAt ds j).map V.int)) ∧ H0 a = none ∧ a ≠ r
theorem HelT.same {H0 H H' : Hp} {r : Addr} {ds : List Deed} {ts : List Addr} (s : Same H H') (g : HelT H0 H r ds ts) : HelT H0 H' r ds ts := ⟨s _ _ g.er, g.lt, g.nd, fun j a e => ⟨s _ _ (g.vt j a e).1, (g.vt j a e).2⟩⟩
def spHeld (CR : Addr) : Sp := fun vs H Q _ => ∃ (p : Addr) (mn : Nat) (xs : List V) (ds : List Deed), vs = [.ref p] ∧ RowAt CR H p (mn : Int) xs ∧ Deeds H xs ds ∧ 1 ≤ mn ∧ mn ≤ 6 ∧ ds.length ≤ 60 ∧ Fault (mn : Int) ds none ∧
  ∀ (r : Addr) (ts : List Addr) (H' : Hp), Same H H' → H r = none → HelT H H' r ds ts → Q (.ref r) H'
def spLocks (K : PySem.W.Frag) : Sp := fun vs H Q _ => ∃ (l : Addr) (mn : Nat) (xs : List V) (ds : List Deed), vs = [.int (mn : Int), .ref l] ∧ SqL K H l xs ∧ Deeds H xs ds ∧ 1 ≤ mn ∧ mn ≤ 6 ∧ ds.length ≤ 60 ∧ Fault (mn : Int) ds none ∧
  ∀ (r : Addr) (ts : List Addr) (H' : Hp), Same H H' → H r = none → HelT H H' r ds ts → Q (.ref r) H'
theorem heldAt_eq {ds : List Deed} {i : Nat} {d : Deed} (e : ds[i]? = some d) : heldAt ds i = srtI (holds (ds.take i) d.1) := by
  unfold heldAt
  rw [List.getD_eq_getElem?_getD, e]
  rfl
end K
namespace K
open PySem L2 RC
theorem bSorted' : bootBuiltins "sorted" = some (.builtin "sorted") := by decide +kernel
abbrev nHeld : List Str := ["row", "holdings", "told", "thread", "word", "thing"]
theorem ndTh : (["thread"] : List Str).Nodup := by decide +kernel
section
variable {P : Program} {w : World} {K : PySem.W.Frag} {mg : Str → Option Value} {base : Heap}
theorem scHeld : FnScope nHeld ["row"] (defScope s_held) := ⟨rfl, rfl, rfl, by decide +kernel, rfl, by decide +kernel, by decide +kernel⟩
theorem ok_held {f C aW aT CR fR : Addr} {fd fdR : FuncData} (F : Fun K "held" "held" s_held f fd) (T : Txt K mg C aW aT) (R : TxtR K mg CR) (zs : mg "sorted" = none)
    (GR : FnOk P w K mg base CX0 1 fR fdR ["self"] (spRDs CR)) (bR : Binds K fdR ["self"] []) (mR : Meth K CR "deeds" fR) : FnOk P w K mg base CX0 2 f fd ["row"] (spHeld CR) := by
  refine F.ok scHeld (fun vs H Q E h => ?_) (fun cdv A outer s H vs Q E hr h => ?_)
  · obtain ⟨p, mn, xs, ds, rfl, _⟩ := h
    rfl
  · obtain ⟨p, mn, xs, ds, rfl, hR, hds, m1, m6, hlen, fa, k⟩ := h
    have nd := scHeld.nd
    have hxl := hds.len
    obtain ⟨dx, tp, e1, e2⟩ := id hR.ex
    refine ⟨_, pss_cons (ps_setComp (i := 1) (N := ["thread"]) (nt := 1) (fr := []) (te := tLst tNil) nd rfl (Or.inl rfl) rfl
          (.of (XN := nHeld) (osc := defScope s_held) rfl rfl rfl (by decide +kernel) (by decide +kernel) (by decide +kernel) rfl (by decide +kernel)) (pi_range1 rfl T.rng (pa_cons (pe_fld (pv 0) rfl) pa_nil))
          (fun _ _ _ _ _ _ => ⟨pg_name (i := 0) ndTh rfl (Or.inl rfl), pif_nil, pe_lst pa_nil⟩))
      (pss_cons (ps_set (i := 2) nd rfl (Or.inl rfl) (pe_lst pa_nil))
      (pss_cons (ps_for PassesOwn.never rfl (pi_list (pe_meth0 (pv 0) R.cl mR GR hr bR .nil pass0)) (pg_tup rfl (pgs_cons (pg_name (i := 3) nd rfl (Or.inl rfl)) (pgs_cons (pg_name (i := 4) nd rfl (Or.inl rfl)) (pgs_cons (pg_name (i := 5) nd rfl (Or.inl rfl)) pgs_nil))))
        (pss_cons (ps_expr (pe_bm PySem.F.plainAttrs_list PySem.F.slot_list_append PySem.F.type_list_append mt_append (pv 2) (pa_cons (pe_callB call_sorted (by rfl) zs bSorted' (pa_cons (pe_ix ix_list (pv 1) (pv 3) (fun _ _ => rfl)) pa_nil)) pa_nil)))
        (pss_cons (ps_if (pt_cmpR op_eq (pv 4) pe_str (nomark _)) (pss_one (ps_expr (pe_bm PySem.F.plainAttrs_list PySem.F.slot_list_append PySem.F.type_list_append mt_append (pe_ix ix_list (pv 1) (pv 3) (fun _ _ => rfl)) (pa_cons (pv 5) pa_nil)))) pss_nil)
        (pss_one (ps_if (pt_cmpR op_eq (pv 4) pe_str (nomark _)) (pss_one (ps_expr (pe_bm PySem.F.plainAttrs_list PySem.F.slot_list_remove PySem.F.type_list_remove mt_remove (pe_ix ix_list (pv 1) (pv 3) (fun _ _ => rfl)) (pa_cons (pv 5) pa_nil)))) pss_nil)))))
      (pss_one (ps_ret (pv 2))))), ?_⟩
    refine setComp_range (n := mn) (fun D i ys H' => ∃ rs : List Addr, ys = rs.map V.ref ∧ rs.length = i ∧ rs.Nodup ∧ Same H H' ∧ ∀ (t : Nat) (a : Addr), rs[t]? = some a → H' a = some (.lst []) ∧ a ≠ D ∧ H a = none)
      (fun Q' q => ⟨_, rfl, p, CR, dx, _, _, rfl, e1, R.cl, R.nM, rflds_m _ _ _, q⟩) (by omega) (fun D hD => ⟨[], rfl, rfl, List.nodup_nil, same_new hD, fun t a e => by simp at e⟩) (fun D hD i ys H' N hi ⟨rs, ey, lr, nr, s', hv⟩ hd hys kT kF => ?_) (fun hl hhl ys H1 ⟨rs, ey, lr, nr, s1, hv⟩ era => ?_)
    · dsimp only [tYes]
      rw [if_pos rfl]
      refine ⟨Nat.zero_le _, fun q nq => ?_⟩
      have s2 := same_new (o := .lst []) nq
      have hqD : q ≠ D := (ne_of_none hd nq).symm
      refine ⟨ys, s2 _ _ hd, hys, kT (.ref q) _ ⟨rs ++ [q], ?_, by rw [List.length_append, lr]; rfl, ?_, ?_, fun t a e => ?_⟩⟩
      · rw [ey, List.map_append]; rfl
      · refine List.nodup_append.mpr ⟨nr, by simp, fun a ha b hb z => ?_⟩
        rw [List.mem_singleton] at hb
        subst hb
        subst z
        obtain ⟨t, ht⟩ := List.getElem?_of_mem ha
        rw [(hv t a ht).1] at nq
        cases nq
      · exact (s'.trans s2).put2 hD
      · rcases getElem_snoc e with z | ⟨z1, z2⟩
        · obtain ⟨h1, h2, h3⟩ := hv t a z
          exact ⟨by rw [upd_ne h2]; exact s2 _ _ h1, h2, h3⟩
        · subst z2
          exact ⟨by rw [upd_ne hqD, upd_same], hqD, s'.free nq⟩
    refine ⟨Nat.zero_le _, fun ta nta => ?_⟩
    dsimp only [gName]
    have s2 := same_new (o := .lst []) nta
    have s02 := s1.trans s2
    refine ⟨_, rfl, p, dx, _, rfl, s02 _ _ e1, rflds_no _ _ _ (by decide +kernel) (by decide +kernel) (by decide +kernel), p, (mn : Int), xs, rfl, hR.same s02, fun l nl => ?_⟩
    have nta0 := s1.free nta
    have g2 : HInv H (upd H1 ta (.lst [])) hl ta mn (fun _ => []) ds 0 rs [] :=
      ⟨by rw [s2 _ _ era, ey], upd_same, lr, rfl, nr, List.nodup_nil, fun t a e => ⟨s2 _ _ (hv t a e).1, (hv t a e).2.2, (hv t a e).2.1, ne_of_none (hv t a e).1 nta⟩, fun j a e => (by simp at e), fun a ha z => (by cases z), hhl, nta0, ne_of_none era nta⟩
    have s3 := same_new (o := .lst xs) nl
    have g3 := g2.keep s3
    have el : upd (upd H1 ta (.lst [])) l (.lst xs) l = some (.lst xs) := upd_same
    have s03 := s02.trans s3
    have nl_hl : l ≠ hl := (ne_of_none g2.eh nl).symm
    have nl_ta : l ≠ ta := (ne_of_none g2.et nl).symm
    have nl_rs : ∀ a ∈ rs, l ≠ a := fun a ha => by
      obtain ⟨t, ht⟩ := List.getElem?_of_mem ha
      exact (ne_of_none (g2.vr t a ht).1 nl).symm
    generalize upd (upd H1 ta (.lst [])) l (.lst xs) = H3 at g3 el s03
    clear g2 s3 s02 s2
    refine ⟨l, rfl, ⟨_, SqL.of el⟩, for_list (K := K) (a := l) (xs := xs) (fun i σ H2 => ∃ (ts : List Addr) (v3 v4 v5 : Option V), σ = [some (.ref p), some (.ref hl), some (.ref ta), v3, v4, v5] ∧ Same H H2 ∧ H2 l = some (.lst xs) ∧ HInv H H2 hl ta mn (holds (ds.take i)) ds i rs ts)
      ⟨[], none, none, none, rfl, s03, el, g3⟩ (fun i σ H2 _ ⟨_, _, _, _, _, _, e, _⟩ => SqL.of e) ?_ ?_⟩
    · rintro i y σ H2 hi ⟨ts, v3, v4, v5, rfl, s2, el2, g⟩
      have hil : i < ds.length := by rw [← hxl]; exact (List.getElem?_eq_some_iff.mp hi).1
      obtain ⟨r, t, wd, x, rfl, er, ed⟩ := (hds.same s2).get hi
      have hD : dAt ds i = (t, wd, x) := dAt_of ed
      obtain ⟨⟨t0, tm⟩, x0, xm⟩ := form_of fa hil
      rw [hD] at t0 tm
      obtain ⟨tn, rfl⟩ : ∃ n : Nat, t = n := ⟨t.toNat, by have : 0 ≤ t := t0; omega⟩
      have htn : tn < mn := by have : (tn : Int) < mn := tm; omega
      have hof := fa i _ ed
      refine ⟨r, _, rfl, SqT.of er, rfl, _, _, rfl, _, _, rfl, _, _, rfl, rfl, ?_⟩
      dsimp only
      obtain ⟨a, ea⟩ : ∃ a, rs[tn]? = some a := ⟨rs[tn]'(by rw [g.lr]; exact htn), by simp [g.lr, htn]⟩
      obtain ⟨va, na0, na1, na2⟩ := g.vr tn a ea
      have hl60 : (holds (ds.take i) (tn : Int)).length < 64 := by
        have := holds_len (ds.take i) (tn : Int)
        rw [List.length_take] at this
        omega
      refine ⟨_, rfl, .inl ⟨rfl, _, SqL.of g.et⟩, _, rfl, _, rfl, hl, _, _, .ref a, rfl, rfl, SqL.of g.eh, atI_nat (by rw [List.getElem?_map, ea]; rfl), a, _, rfl, SqL.of va, hl60, fun sl ns' hp hs nsl => ?_⟩
      have ens := srtI_eq hp hs
      subst ens
      have s4 := same_new (o := .lst ((srtI (holds (ds.take i) (tn : Int))).map V.int)) nsl
      have g4 := g.keep s4
      have esl : upd H2 sl (.lst ((srtI (holds (ds.take i) (tn : Int))).map V.int)) sl = some (.lst ((heldAt ds i).map V.int)) := by rw [upd_same, heldAt_eq ed]
      have el4 := s4 _ _ el2
      have s04 := s2.trans s4
      have nsl0 : H sl = none := s2.free nsl
      have nsr : ¬ sl ∈ rs := fun z => by
        obtain ⟨u, hu⟩ := List.getElem?_of_mem z
        exact ne_of_none (g.vr u sl hu).1 nsl rfl
      have nst : ¬ sl ∈ ts := fun z => by
        obtain ⟨u, hu⟩ := List.getElem?_of_mem z
        exact ne_of_none (g.vt u sl hu).1 nsl rfl
      have nsh : sl ≠ hl := (ne_of_none g.eh nsl).symm
      have nsa : sl ≠ ta := (ne_of_none g.et nsl).symm
      generalize upd H2 sl (.lst ((srtI (holds (ds.take i) (tn : Int))).map V.int)) = H4 at g4 esl el4 s04
      refine ⟨ta, _, _, rfl, rfl, g4.et, small1000 (by rw [List.length_map, g4.lt]; omega), ?_⟩
      have g5 := g4.tell nsl0 nsr nst nsh nsa esl
      rw [show ts.map V.ref ++ [V.ref sl] = (ts ++ [sl]).map V.ref by rw [List.map_append]; rfl]
      dsimp only
      have el5 : upd H4 ta (.lst ((ts ++ [sl]).map V.ref)) l = some (.lst xs) := by rw [upd_ne nl_ta]; exact el4
      have s05 : Same H (upd H4 ta (.lst ((ts ++ [sl]).map V.ref))) := s04.put2 g.nta
      generalize upd H4 ta (.lst ((ts ++ [sl]).map V.ref)) = H5 at g5 el5 s05
      clear g4 s4 el4 s04 g
      have wdd : ∀ (lw : Str) (Hh : Hp) (Qt : Bool → Hp → Prop), Qt (decide (wd = lw)) Hh → Qt (decide (V.str wd = V.str lw)) Hh := fun lw Hh Qt q => by rw [dec_str']; exact q
      refine PuT.ifsJ (c := wd = W.take) (fun σ' H' => σ' = [some (.ref p), some (.ref hl), some (.ref ta), some (.int (tn : Int)), some (.str wd), some (.int x)] ∧ Same H H' ∧ H' l = some (.lst xs) ∧ HInv H H' hl ta mn (fun u => if wd = W.take ∧ u = (tn : Int) then holds (ds.take i) u ++ [x] else holds (ds.take i) u) ds (i + 1) rs (ts ++ [sl]))
        (fun Qt q => ⟨_, rfl, rfl, _, rfl, wdd _ _ Qt q⟩) (fun z N hN => ?_) (fun z => ⟨rfl, s05, el5, g5.to fun u hu => by rw [if_neg (fun q => z q.1)]⟩) ?_
      · obtain ⟨va5, _⟩ := g5.vr tn a ea
        refine ⟨_, rfl, _, rfl, hl, _, _, .ref a, rfl, rfl, SqL.of g5.eh, atI_nat (by rw [List.getElem?_map, ea]; rfl), .inl ⟨rfl, _, SqL.of va5⟩, _, rfl, a, _, _, rfl, rfl, va5, small1000 (by rw [List.length_map]; omega), ?_⟩
        have g6 := g5.put (ns := holds (ds.take i) (tn : Int) ++ [x]) ea
        rw [show (holds (ds.take i) (tn : Int)).map V.int ++ [V.int x] = (holds (ds.take i) (tn : Int) ++ [x]).map V.int by rw [List.map_append]; rfl]
        refine hN _ _ ⟨rfl, s05.put2 na0, by rw [upd_ne (nl_rs a (List.mem_of_getElem? ea))]; exact el5, g6.to fun u hu => ?_⟩
        by_cases q : (u : Int) = (tn : Int)
        · rw [if_pos q, if_pos ⟨z, q⟩, q]
        · rw [if_neg q, if_neg (fun y => q y.2)]
      rintro σ' H6 ⟨rfl, s06, el6, g6⟩
      refine PuT.if1 (c := wd = W.give) (fun Qt q => ⟨_, rfl, rfl, _, rfl, wdd _ _ Qt q⟩) (fun z => ?_) (fun z => ?_)
      · have ntk : wd ≠ W.take := fun q => nTG (q.symm.trans z)
        obtain ⟨va6, _⟩ := g6.vr tn a ea
        rw [if_neg (fun q => ntk q.1)] at va6
        have hok := holdOk (fa.take i)
        have hg : (stOf (ds.take i)).hold x = some (tn : Int) := wo_give (d := ((tn : Int), wd, x)) (faultOf_wo hof) z
        obtain ⟨j, hj1, hj2, hj3⟩ := erase_at ((hok.mem (tn : Int) x).mpr hg) (hok.nd (tn : Int))
        refine ⟨_, rfl, _, rfl, hl, _, _, .ref a, rfl, rfl, SqL.of g6.eh, atI_nat (by rw [List.getElem?_map, ea]; rfl), .inl ⟨rfl, _, SqL.of va6⟩, _, rfl, a, _, x, j, rfl, rfl, va6, hj1, hj2, ?_⟩
        rw [hj3]
        have g7 := g6.put (ns := (holds (ds.take i) (tn : Int)).filter fun y => decide (y ≠ x)) ea
        refine ⟨ts ++ [sl], _, _, _, rfl, s06.put2 na0, by rw [upd_ne (nl_rs a (List.mem_of_getElem? ea))]; exact el6, ?_⟩
        rw [take_snoc ed, holds_snoc]
        refine g7.to fun u hu => ?_
        unfold hstep
        dsimp only
        by_cases q : (u : Int) = (tn : Int)
        · rw [if_pos q, if_pos q, if_neg ntk, if_pos z, q]
        · rw [if_neg q, if_neg q, if_neg (fun y => q y.2)]
      · refine ⟨ts ++ [sl], _, _, _, rfl, s06, el6, ?_⟩
        rw [take_snoc ed, holds_snoc]
        refine g6.to fun u hu => ?_
        unfold hstep
        dsimp only
        by_cases q : (u : Int) = (tn : Int)
        · rw [if_pos q, if_neg z]
          by_cases y : wd = W.take
          · rw [if_pos y, if_pos ⟨y, q⟩]
          · rw [if_neg y, if_neg (fun w' => y w'.1)]
        · rw [if_neg q, if_neg (fun y => q y.2)]
    · rintro σ H2 ⟨ts, v3, v4, v5, rfl, s2, el2, g⟩
      refine ⟨_, rfl, k ta ts H2 s2 g.nta ⟨g.et, by rw [g.lt, hxl], g.nt, fun j a e => ?_⟩⟩
      obtain ⟨h1, h2, h3, h4⟩ := g.vt j a e
      exact ⟨h1, h2, h4⟩
end
end K
namespace L2
open PySem PySem.Spec PyProof.Rows
end L2
namespace K
open PySem L2 RC
def both (ns ms : List Int) : List Int := ns.filter fun x => decide (x ∈ ms)
def spCom (K : PySem.W.Frag) : Sp := fun vs H Q _ => ∃ (a b : Addr) (ns ms : List Int), vs = [.ref a, .ref b] ∧ H a = some (.lst (ns.map V.int)) ∧ H b = some (.lst (ms.map V.int)) ∧ ns.length ≤ 1000 ∧
  ∀ (r : Addr) (H' : Hp), Same H H' → H r = none → H' r = some (.lst ((both ns ms).map V.int)) → Q (.ref r) H'
theorem ndLO : (["lock", "others"] : List Str).Nodup := by decide +kernel
section
variable {P : Program} {w : World} {K : PySem.W.Frag} {mg : Str → Option Value} {base : Heap}
theorem scCom : FnScope ["some", "others"] ["some", "others"] (defScope s_in_common) := ⟨rfl, rfl, rfl, by decide +kernel, rfl, by decide +kernel, by decide +kernel⟩
theorem ok_com {f : Addr} {fd : FuncData} (F : Fun K "in_common" "in_common" s_in_common f fd) : FnOk P w K mg base CX0 1 f fd ["some", "others"] (spCom K) := by
  refine F.ok scCom (fun vs H Q E h => ?_) (fun cdv A outer s H vs Q E hr h => ?_)
  · obtain ⟨a, b, ns, ms, rfl, _⟩ := h
    rfl
  · obtain ⟨a, b, ns, ms, rfl, ea, eb, hl, k⟩ := h
    have nd := scCom.nd
    refine ⟨_, pss_one (ps_ret (pe_comp (N := ["lock", "others"]) (nt := 1) (fr := [1]) (tt := tTest (tOp (rIn K false) (tVar 0) (tVar 1))) (te := tVar 0) rfl
          (.of (XN := ["some", "others"]) (osc := defScope s_in_common) rfl rfl rfl (by decide +kernel) (by decide +kernel) (by decide +kernel) rfl (by decide +kernel)) (pi_list (pv 0))
          (fun _ _ _ _ _ _ => ⟨pg_name (i := 0) ndLO rfl (Or.inl rfl), pif_one (pt_cmpR (r := rIn K false) op_in_seq (pv 0) (pv 1) (by with_unfolding_all rfl)), pv 0⟩))), ?_⟩
    dsimp only [tRet]
    rw [tComp_iff]
    refine ⟨_, rfl, a, rfl, ⟨_, SqL.of ea⟩, comp_intsF (fun x => decide (x ∈ ms)) (small1000 hl) (SqL.of ea) (fun x hx H' s' Qt qt => ⟨_, rfl, _, rfl, b, _, rfl, .inl (SqL.of (s' _ _ eb)), rfl, ints_flat _, _, rfl, ?_⟩) (fun D H' hD s' e => k D H' s' hD e)⟩
    show Qt (inV _ _) H'
    rw [inV_ints]
    exact qt H' (Same.refl _)
end
end K
namespace K
open PySem L2 RC
theorem bSortedL : bootBuiltins "sorted" = some (.builtin "sorted") := by decide +kernel
theorem asgCompG_iff {K : PySem.W.Frag} {nt : Nat} {fr : List Nat} {tl : TE} {g gg : TG} {tt : TT} {te : TE} {σ : St} {H : Hp} {De : Ends} :
    tAsg (tComp nt fr (iList K tl) g tt te) gg De σ H = tl σ H (fun x H1 => ∃ a, x = .ref a ∧ (∃ xs, SqL K H1 a xs) ∧ CompG K nt fr g tt te σ H1 (fun v H2 => gg v σ H2 De.nx) a) := rfl
abbrev nLks : List Str := ["_law_many", "_law_deeds_here", "_law_mine", "_law_rows", "_law_thread", "_law_word", "_law_thing"]
theorem ndThL : (["_law_thread"] : List Str).Nodup := by decide +kernel
theorem ndLT : (["_law_lock", "_law_thing"] : List Str).Nodup := by decide +kernel
section
variable {P : Program} {w : World} {K : PySem.W.Frag} {mg : Str → Option Value} {base : Heap}
theorem scLks : FnScope nLks ["_law_many", "_law_deeds_here"] (defScope s__law_locks) := ⟨rfl, rfl, rfl, by decide +kernel, rfl, by decide +kernel, by decide +kernel⟩
theorem ok_locks {f C aW aT : Addr} {fd : FuncData} (F : Fun K "_law_locks" "_law_locks" s__law_locks f fd) (T : Txt K mg C aW aT) (zs : mg "sorted" = none) : FnOk P w K mg base CX0 2 f fd ["_law_many", "_law_deeds_here"] (spLocks K) := by
  refine F.ok scLks (fun vs H Q E h => ?_) (fun cdv A outer s H vs Q E hr h => ?_)
  · obtain ⟨l, mn, xs, ds, rfl, _⟩ := h
    rfl
  · obtain ⟨l, mn, xs, ds, rfl, hl0, hds, m1, m6, hlen, fa, k⟩ := h
    have nd := scLks.nd
    have hxl := hds.len
    refine ⟨_, pss_cons (ps_setComp (i := 2) (N := ["_law_thread"]) (nt := 1) (fr := []) (te := tLst tNil) nd rfl (Or.inl rfl) rfl
          (.of (XN := nLks) (osc := defScope s__law_locks) rfl rfl rfl (by decide +kernel) (by decide +kernel) (by decide +kernel) rfl (by decide +kernel)) (pi_range1 rfl T.rng (pa_cons (pv 0) pa_nil))
          (fun _ _ _ _ _ _ => ⟨pg_name (i := 0) ndThL rfl (Or.inl rfl), pif_nil, pe_lst pa_nil⟩))
      (pss_cons (ps_set (i := 3) nd rfl (Or.inl rfl) (pe_lst pa_nil))
      (pss_cons (ps_for PassesOwn.never rfl (pi_list (pv 1)) (pg_tup rfl (pgs_cons (pg_name (i := 4) nd rfl (Or.inl rfl)) (pgs_cons (pg_name (i := 5) nd rfl (Or.inl rfl)) (pgs_cons (pg_name (i := 6) nd rfl (Or.inr rfl)) pgs_nil))))
        (pss_cons (ps_expr (pe_bm PySem.F.plainAttrs_list PySem.F.slot_list_append PySem.F.type_list_append mt_append (pv 3) (pa_cons (pe_callB call_sorted (by rfl) zs bSortedL (pa_cons (pe_ix ix_list (pv 2) (pv 4) (fun _ _ => rfl)) pa_nil)) pa_nil)))
        (pss_cons (ps_if (pt_cmpR op_eq (pv 5) pe_str (nomark _)) (pss_one (ps_asg (pe_op op_cat (pe_ix ix_list (pv 2) (pv 4) (fun _ _ => rfl)) (pe_lst (pa_cons (pv 6) pa_nil))) (pg_sub (pv 2) (pv 4) set_list))) pss_nil)
        (pss_one (ps_if (pt_cmpR op_eq (pv 5) pe_str (nomark _)) (pss_one (ps_asg (pe_comp (N := ["_law_lock", "_law_thing"]) (nt := 1) (fr := [6]) (tt := tTest (tOp rNe (tVar 0) (tVar 1))) (te := tVar 0) rfl
              (.of (XN := nLks) (osc := defScope s__law_locks) rfl rfl rfl (by decide +kernel) (by decide +kernel) (by decide +kernel) rfl (by decide +kernel)) (pi_list (pe_ix ix_list (pv 2) (pv 4) (fun _ _ => rfl)))
              (fun _ _ _ _ _ _ => ⟨pg_name (i := 0) ndLT rfl (Or.inl rfl), pif_one (pt_cmpR op_ne (pv 0) (pv 1) (nomark _)), pv 0⟩)) (pg_sub (pv 2) (pv 4) set_list))) pss_nil)))))
      (pss_one (ps_ret (pv 3))))), ?_⟩
    refine setComp_range (n := mn) (fun D i ys H' => ∃ rs : List Addr, ys = rs.map V.ref ∧ rs.length = i ∧ rs.Nodup ∧ Same H H' ∧ ∀ (t : Nat) (a : Addr), rs[t]? = some a → H' a = some (.lst []) ∧ a ≠ D ∧ H a = none)
      (fun Q' q => ⟨_, rfl, q⟩) (by omega) (fun D hD => ⟨[], rfl, rfl, List.nodup_nil, same_new hD, fun t a e => by simp at e⟩) (fun D hD i ys H' N hi ⟨rs, ey, lr, nr, s', hv⟩ hd hys kT kF => ?_) (fun hl hhl ys H1 ⟨rs, ey, lr, nr, s1, hv⟩ era => ?_)
    · dsimp only [tYes]
      rw [if_pos rfl]
      refine ⟨Nat.zero_le _, fun q nq => ?_⟩
      have s2 := same_new (o := .lst []) nq
      have hqD : q ≠ D := (ne_of_none hd nq).symm
      refine ⟨ys, s2 _ _ hd, hys, kT (.ref q) _ ⟨rs ++ [q], ?_, by rw [List.length_append, lr]; rfl, ?_, ?_, fun t a e => ?_⟩⟩
      · rw [ey, List.map_append]; rfl
      · refine List.nodup_append.mpr ⟨nr, by simp, fun a ha b hb z => ?_⟩
        rw [List.mem_singleton] at hb
        subst hb
        subst z
        obtain ⟨t, ht⟩ := List.getElem?_of_mem ha
        rw [(hv t a ht).1] at nq
        cases nq
      · exact (s'.trans s2).put2 hD
      · rcases getElem_snoc e with z | ⟨z1, z2⟩
        · obtain ⟨h1, h2, h3⟩ := hv t a z
          exact ⟨by rw [upd_ne h2]; exact s2 _ _ h1, h2, h3⟩
        · subst z2
          exact ⟨by rw [upd_ne hqD, upd_same], hqD, s'.free nq⟩
    refine ⟨Nat.zero_le _, fun ta nta => ?_⟩
    dsimp only [gName]
    have s2 := same_new (o := .lst []) nta
    have s02 := s1.trans s2
    have nta0 := s1.free nta
    have g2 : HInv H (upd H1 ta (.lst [])) hl ta mn (fun _ => []) ds 0 rs [] :=
      ⟨by rw [s2 _ _ era, ey], upd_same, lr, rfl, nr, List.nodup_nil, fun t a e => ⟨s2 _ _ (hv t a e).1, (hv t a e).2.2, (hv t a e).2.1, ne_of_none (hv t a e).1 nta⟩, fun j a e => (by simp at e), fun a ha z => (by cases z), hhl, nta0, ne_of_none era nta⟩
    generalize upd H1 ta (.lst []) = H3 at g2 s02
    clear s2
    refine ⟨_, rfl, l, rfl, ⟨_, s02.seq hl0⟩, for_list (K := K) (a := l) (xs := xs) (fun i σ H2 => ∃ (rs ts : List Addr) (v3 v4 v5 : Option V), σ = [some (.int (mn : Int)), some (.ref l), some (.ref hl), some (.ref ta), v3, v4, v5] ∧ Same H H2 ∧ HInv H H2 hl ta mn (holds (ds.take i)) ds i rs ts)
      ⟨rs, [], none, none, none, rfl, s02, g2⟩ (fun i σ H2 _ ⟨_, _, _, _, _, _, s, _⟩ => s.seq hl0) ?_ ?_⟩
    · rintro i y σ H2 hi ⟨rs, ts, v3, v4, v5, rfl, s2, g⟩
      have hil : i < ds.length := by rw [← hxl]; exact (List.getElem?_eq_some_iff.mp hi).1
      obtain ⟨r, t, wd, x, rfl, er, ed⟩ := (hds.same s2).get hi
      have hD : dAt ds i = (t, wd, x) := dAt_of ed
      obtain ⟨⟨t0, tm⟩, x0, xm⟩ := form_of fa hil
      rw [hD] at t0 tm
      obtain ⟨tn, rfl⟩ : ∃ n : Nat, t = n := ⟨t.toNat, by have : 0 ≤ t := t0; omega⟩
      have htn : tn < mn := by have : (tn : Int) < mn := tm; omega
      have hof := fa i _ ed
      refine ⟨r, _, rfl, SqT.of er, rfl, _, _, rfl, _, _, rfl, _, _, rfl, rfl, ?_⟩
      dsimp only
      obtain ⟨a, ea⟩ : ∃ a, rs[tn]? = some a := ⟨rs[tn]'(by rw [g.lr]; exact htn), by simp [g.lr, htn]⟩
      obtain ⟨va, na0, na1, na2⟩ := g.vr tn a ea
      have hl60 : (holds (ds.take i) (tn : Int)).length < 64 := by
        have := holds_len (ds.take i) (tn : Int)
        rw [List.length_take] at this
        omega
      refine ⟨_, rfl, .inl ⟨rfl, _, SqL.of g.et⟩, _, rfl, _, rfl, hl, _, _, .ref a, rfl, rfl, SqL.of g.eh, atI_nat (by rw [List.getElem?_map, ea]; rfl), a, _, rfl, SqL.of va, hl60, fun sl ns' hp hs nsl => ?_⟩
      have ens := srtI_eq hp hs
      subst ens
      have s4 := same_new (o := .lst ((srtI (holds (ds.take i) (tn : Int))).map V.int)) nsl
      have g4 := g.keep s4
      have esl : upd H2 sl (.lst ((srtI (holds (ds.take i) (tn : Int))).map V.int)) sl = some (.lst ((heldAt ds i).map V.int)) := by rw [upd_same, heldAt_eq ed]
      have s04 := s2.trans s4
      have nsl0 : H sl = none := s2.free nsl
      have nsr : ¬ sl ∈ rs := fun z => by
        obtain ⟨u, hu⟩ := List.getElem?_of_mem z
        exact ne_of_none (g.vr u sl hu).1 nsl rfl
      have nst : ¬ sl ∈ ts := fun z => by
        obtain ⟨u, hu⟩ := List.getElem?_of_mem z
        exact ne_of_none (g.vt u sl hu).1 nsl rfl
      have nsh : sl ≠ hl := (ne_of_none g.eh nsl).symm
      have nsa : sl ≠ ta := (ne_of_none g.et nsl).symm
      generalize upd H2 sl (.lst ((srtI (holds (ds.take i) (tn : Int))).map V.int)) = H4 at g4 esl s04
      refine ⟨ta, _, _, rfl, rfl, g4.et, small1000 (by rw [List.length_map, g4.lt]; omega), ?_⟩
      have g5 := g4.tell nsl0 nsr nst nsh nsa esl
      rw [show ts.map V.ref ++ [V.ref sl] = (ts ++ [sl]).map V.ref by rw [List.map_append]; rfl]
      dsimp only
      have s05 : Same H (upd H4 ta (.lst ((ts ++ [sl]).map V.ref))) := s04.put2 g.nta
      generalize upd H4 ta (.lst ((ts ++ [sl]).map V.ref)) = H5 at g5 s05
      clear g4 s4 s04 g
      have wdd : ∀ (lw : Str) (Hh : Hp) (Qt : Bool → Hp → Prop), Qt (decide (wd = lw)) Hh → Qt (decide (V.str wd = V.str lw)) Hh := fun lw Hh Qt q => by rw [dec_str']; exact q
      have n4 : tn < rs.length := by rw [g5.lr]; exact htn
      refine PuT.ifsJ (c := wd = W.take) (fun σ' H' => σ' = [some (.int (mn : Int)), some (.ref l), some (.ref hl), some (.ref ta), some (.int (tn : Int)), some (.str wd), some (.int x)] ∧ Same H H' ∧ ∃ rs', HInv H H' hl ta mn (fun u => if wd = W.take ∧ u = (tn : Int) then holds (ds.take i) u ++ [x] else holds (ds.take i) u) ds (i + 1) rs' (ts ++ [sl]))
        (fun Qt q => ⟨_, rfl, rfl, _, rfl, wdd _ _ Qt q⟩) (fun z N hN => ?_) (fun z => ⟨rfl, s05, rs, g5.to fun u hu => by rw [if_neg (fun q => z q.1)]⟩) ?_
      · obtain ⟨va5, _⟩ := g5.vr tn a ea
        refine ⟨_, rfl, _, rfl, hl, _, _, .ref a, rfl, rfl, SqL.of g5.eh, atI_nat (by rw [List.getElem?_map, ea]; rfl), _, rfl, (by show 1 ≤ sizeLine; decide), fun o1 no1 => ?_⟩
        have s6 := same_new (o := .lst [V.int x]) no1
        refine ⟨a, o1, _, _, rfl, rfl, s6 _ _ va5, upd_same, Nat.le_of_lt (small1000 (by rw [List.length_map]; show _ + 1 ≤ 1000; omega)), fun q nq => ?_⟩
        have s7 := s6.trans (same_new (o := .lst ((holds (ds.take i) (tn : Int)).map V.int ++ [V.int x])) nq)
        have eq : upd (upd H5 o1 (.lst [V.int x])) q (.lst ((holds (ds.take i) (tn : Int)).map V.int ++ [V.int x])) q = some (.lst ((holds (ds.take i) (tn : Int) ++ [x]).map V.int)) := by rw [upd_same, List.map_append]; rfl
        have nq5 : H5 q = none := s6.free nq
        have g7 := g5.keep s7
        have s07 := s05.trans s7
        generalize upd (upd H5 o1 (.lst [V.int x])) q (.lst ((holds (ds.take i) (tn : Int)).map V.int ++ [V.int x])) = H7 at g7 eq s07
        refine ⟨_, rfl, _, rfl, hl, _, (tn : Int), tn, rfl, rfl, g7.eh, ?ix, ?_⟩
        case ix =>
          rw [List.length_map]
          unfold ixN
          rw [if_pos (by omega), if_pos (by omega)]
          rfl
        have nqr : ¬ q ∈ rs := fun z => by
          obtain ⟨u, hu⟩ := List.getElem?_of_mem z
          exact ne_of_none (g5.vr u q hu).1 nq5 rfl
        have nqt : ¬ q ∈ ts ++ [sl] := fun z => by
          obtain ⟨u, hu⟩ := List.getElem?_of_mem z
          exact ne_of_none (g5.vt u q hu).1 nq5 rfl
        have g8 := g7.swap (t := tn) (a := q) (ns := holds (ds.take i) (tn : Int) ++ [x]) htn (s05.free nq5) nqr nqt (ne_of_none g5.eh nq5).symm (ne_of_none g5.et nq5).symm eq
        rw [show (rs.map V.ref).set tn (V.ref q) = (rs.set tn q).map V.ref by rw [List.map_set]]
        refine hN _ _ ⟨rfl, s07.put2 g7.nhl, rs.set tn q, g8.to fun u hu => ?_⟩
        by_cases q : (u : Int) = (tn : Int)
        · rw [if_pos q, if_pos ⟨z, q⟩, q]
        · rw [if_neg q, if_neg (fun y => q y.2)]
      rintro σ' H6 ⟨rfl, s06, rs', g6⟩
      refine PuT.if1 (c := wd = W.give) (fun Qt q => ⟨_, rfl, rfl, _, rfl, wdd _ _ Qt q⟩) (fun z => ?_) (fun z => ?_)
      · have ntk : wd ≠ W.take := fun q => nTG (q.symm.trans z)
        obtain ⟨a', ea'⟩ : ∃ a, rs'[tn]? = some a := ⟨rs'[tn]'(by rw [g6.lr]; exact htn), by simp [g6.lr, htn]⟩
        obtain ⟨va6, _⟩ := g6.vr tn a' ea'
        rw [if_neg (fun q => ntk q.1)] at va6
        rw [asgCompG_iff]
        refine ⟨_, rfl, _, rfl, hl, _, _, .ref a', rfl, rfl, SqL.of g6.eh, atI_nat (by rw [List.getElem?_map, ea']; rfl), a', rfl, ⟨_, SqL.of va6⟩, comp_intsF (fun y => decide (y ≠ x)) (small1000 (by omega)) (SqL.of va6) (fun y hy H' s' Qt qt => ⟨_, rfl, _, rfl, rfl, _, rfl, ?_⟩) (fun q H7 nq s7 eq => ?_)⟩
        · rw [dec_int', show (!decide (y = x)) = decide (y ≠ x) by simp]
          exact qt H' (Same.refl _)
        · have g7 := g6.keep s7
          have s07 := s06.trans s7
          have nq0 : H q = none := s06.free nq
          refine ⟨_, rfl, _, rfl, hl, _, (tn : Int), tn, rfl, rfl, g7.eh, ?ix2, ?_⟩
          case ix2 =>
            rw [List.length_map, g6.lr]
            unfold ixN
            rw [if_pos (by omega), if_pos (by omega)]
            rfl
          have nqr : ¬ q ∈ rs' := fun z => by
            obtain ⟨u, hu⟩ := List.getElem?_of_mem z
            exact ne_of_none (g6.vr u q hu).1 nq rfl
          have nqt : ¬ q ∈ ts ++ [sl] := fun z => by
            obtain ⟨u, hu⟩ := List.getElem?_of_mem z
            exact ne_of_none (g6.vt u q hu).1 nq rfl
          have g8 := g7.swap (t := tn) (a := q) (ns := (holds (ds.take i) (tn : Int)).filter fun y => decide (y ≠ x)) htn nq0 nqr nqt (ne_of_none g6.eh nq).symm (ne_of_none g6.et nq).symm eq
          rw [show (rs'.map V.ref).set tn (V.ref q) = (rs'.set tn q).map V.ref by rw [List.map_set]]
          refine ⟨rs'.set tn q, ts ++ [sl], _, _, _, rfl, s07.put2 g7.nhl, ?_⟩
          rw [take_snoc ed, holds_snoc]
          refine g8.to fun u hu => ?_
          unfold hstep
          dsimp only
          by_cases q : (u : Int) = (tn : Int)
          · rw [if_pos q, if_pos q, if_neg ntk, if_pos z, q]
          · rw [if_neg q, if_neg q, if_neg (fun y => q y.2)]
      · refine ⟨rs', ts ++ [sl], _, _, _, rfl, s06, ?_⟩
        rw [take_snoc ed, holds_snoc]
        refine g6.to fun u hu => ?_
        unfold hstep
        dsimp only
        by_cases q : (u : Int) = (tn : Int)
        · rw [if_pos q, if_neg z]
          by_cases y : wd = W.take
          · rw [if_pos y, if_pos ⟨y, q⟩]
          · rw [if_neg y, if_neg (fun w' => y w'.1)]
        · rw [if_neg q, if_neg (fun y => q y.2)]
    · rintro σ H2 ⟨rs, ts, v3, v4, v5, rfl, s2, g⟩
      refine ⟨_, rfl, k ta ts H2 s2 g.nta ⟨g.et, by rw [g.lt, hxl], g.nt, fun j a e => ?_⟩⟩
      obtain ⟨h1, h2, h3, h4⟩ := g.vt j a e
      exact ⟨h1, h2, h4⟩
end
end K
namespace RG
section
variable (n : Nat) (tk : Nat → Bool) (lk th : Nat → Int) (hd : Nat → List Int)
def com (a b : List Int) : List Int := a.filter fun x => decide (x ∈ b)
def canF (c : List Nat) (p : Nat) : Bool := decide (lk (c.getLastD 0) ∈ hd p) && c.all fun o => !decide (th o = th p) && (com (hd o) (hd p)).isEmpty
def takesL : List Nat := (List.range n).filter tk
def longer (c : List Nat) : List (List Nat) := ((takesL n tk).filter (canF lk th hd c)).map fun p => c ++ [p]
def closes (c : List Nat) : Bool := decide (lk (c.getLastD 0) ∈ hd (c.headD 0))
inductive Chain : List Nat → Prop where
  | one {p : Nat} : p < n → tk p = true → Chain [p]
  | snoc {c : List Nat} {p : Nat} : Chain c → p < n → tk p = true → canF lk th hd c p = true → Chain (c ++ [p])
def Ring (R : List Nat) : Prop := Chain n tk lk th hd R ∧ closes lk hd R = true
end
section
variable {n : Nat} {tk : Nat → Bool} {lk th : Nat → Int} {hd : Nat → List Int}
theorem mem_takes {p : Nat} : p ∈ takesL n tk ↔ p < n ∧ tk p = true := by
  unfold takesL
  rw [List.mem_filter, List.mem_range]
theorem Chain.pos {c : List Nat} (h : Chain n tk lk th hd c) : 1 ≤ c.length := by
  cases h with
  | one _ _ => exact Nat.le_refl _
  | snoc _ _ _ _ => rw [List.length_append, List.length_singleton]; omega
theorem Chain.mem {c : List Nat} (h : Chain n tk lk th hd c) : ∀ p ∈ c, p < n ∧ tk p = true := by
  induction h with
  | one a b => intro p hp; rw [List.mem_singleton.mp hp]; exact ⟨a, b⟩
  | snoc _ a b _ ih =>
    intro p hp
    rcases List.mem_append.mp hp with q | q
    · exact ih p q
    · rw [List.mem_singleton.mp q]; exact ⟨a, b⟩
theorem mem_longer {c c' : List Nat} : c' ∈ longer n tk lk th hd c ↔ ∃ p, p < n ∧ tk p = true ∧ canF lk th hd c p = true ∧ c' = c ++ [p] := by
  unfold longer
  rw [List.mem_map]
  constructor
  · rintro ⟨p, hp, e⟩
    rw [List.mem_filter, mem_takes] at hp
    exact ⟨p, hp.1.1, hp.1.2, hp.2, e.symm⟩
  · rintro ⟨p, a, b, c, e⟩
    exact ⟨p, List.mem_filter.mpr ⟨mem_takes.mpr ⟨a, b⟩, c⟩, e.symm⟩
theorem Chain.longer {c c' : List Nat} (h : Chain n tk lk th hd c) (m : c' ∈ longer n tk lk th hd c) : Chain n tk lk th hd c' := by
  obtain ⟨p, a, b, e, rfl⟩ := mem_longer.mp m
  exact .snoc h a b e
theorem longer_len {c c' : List Nat} (m : c' ∈ longer n tk lk th hd c) : c'.length = c.length + 1 := by
  obtain ⟨p, a, b, e, rfl⟩ := mem_longer.mp m
  rw [List.length_append, List.length_singleton]
theorem longer_cnt {c : List Nat} : (longer n tk lk th hd c).length ≤ n := by
  unfold longer takesL
  rw [List.length_map]
  have h1 := List.length_filter_le (canF lk th hd c) ((List.range n).filter tk)
  have h2 := List.length_filter_le tk (List.range n)
  rw [List.length_range] at h2
  omega
theorem Chain.step {R : List Nat} (h : Chain n tk lk th hd R) : ∀ j, 1 ≤ j → j < R.length → R.take (j + 1) ∈ RG.longer n tk lk th hd (R.take j) := by
  induction h with
  | one _ _ => intro j a b; rw [List.length_singleton] at b; omega
  | @snoc c p hc a b e ih =>
    intro j h1 h2
    rw [List.length_append, List.length_singleton] at h2
    by_cases q : j < c.length
    · rw [List.take_append_of_le_length (by omega), List.take_append_of_le_length (by omega)]
      exact ih j h1 q
    · have ej : j = c.length := by omega
      subst ej
      have e1 : (c ++ [p]).take c.length = c := List.take_left' rfl
      have e2 : (c ++ [p]).take (c.length + 1) = c ++ [p] := List.take_of_length_le (by rw [List.length_append, List.length_singleton]; exact Nat.le_refl _)
      rw [e1, e2]
      exact mem_longer.mpr ⟨p, a, b, e, rfl⟩
def Srch (n : Nat) (tk : Nat → Bool) (lk th : Nat → Int) (hd : Nat → List Int) (S : List (List Nat)) : Prop :=
  (∀ c ∈ S, Chain n tk lk th hd c) ∧ ∀ R, Ring n tk lk th hd R → ∃ j, 1 ≤ j ∧ j ≤ R.length ∧ R.take j ∈ S
theorem srch0 : Srch n tk lk th hd ((takesL n tk).map fun p => [p]) := by
  refine ⟨fun c hc => ?_, fun R hR => ⟨1, Nat.le_refl _, hR.1.pos, ?_⟩⟩
  · obtain ⟨p, hp, rfl⟩ := List.mem_map.mp hc
    exact .one (mem_takes.mp hp).1 (mem_takes.mp hp).2
  · match R, hR.1.pos, hR.1.mem with
    | p :: r, _, hm => exact List.mem_map.mpr ⟨p, mem_takes.mpr (hm p (.head _)), rfl⟩
theorem srch_step {S : List (List Nat)} {c : List Nat} (h : Srch n tk lk th hd (S ++ [c])) (nc : closes lk hd c = false) : Srch n tk lk th hd (S ++ longer n tk lk th hd c) := by
  have hc := h.1 c (List.mem_append.mpr (.inr (.head _)))
  refine ⟨fun c' hc' => ?_, fun R hR => ?_⟩
  · rcases List.mem_append.mp hc' with q | q
    · exact h.1 c' (List.mem_append.mpr (.inl q))
    · exact hc.longer q
  · obtain ⟨j, j1, j2, hj⟩ := h.2 R hR
    rcases List.mem_append.mp hj with q | q
    · exact ⟨j, j1, j2, List.mem_append.mpr (.inl q)⟩
    · have e : R.take j = c := List.mem_singleton.mp q
      by_cases l : j < R.length
      · refine ⟨j + 1, by omega, l, List.mem_append.mpr (.inr ?_)⟩
        rw [← e]
        exact hR.1.step j j1 l
      · rw [List.take_of_length_le (by omega)] at e
        have := hR.2
        rw [e, nc] at this
        cases this
theorem srch_end (h : Srch n tk lk th hd []) : ∀ R, ¬ Ring n tk lk th hd R := fun R hR => by
  obtain ⟨_, _, _, q⟩ := h.2 R hR
  cases q
def wt (c : List Nat) : Nat := 61 ^ (7 - c.length)
def mu (S : List (List Nat)) : Nat := (S.map wt).sum
theorem mu_app (A B : List (List Nat)) : mu (A ++ B) = mu A + mu B := by
  unfold mu
  rw [List.map_append, List.sum_append]
theorem sum_le {k : Nat} : ∀ {l : List Nat}, (∀ x ∈ l, x = k) → l.sum = l.length * k
  | [], _ => by simp
  | x :: r, h => by
    rw [List.sum_cons, List.length_cons, sum_le fun y hy => h y (.tail _ hy), h x (.head _), Nat.succ_mul, Nat.add_comm]
theorem mu_step {S : List (List Nat)} {c : List Nat} (hn : n ≤ 60) (hl : c.length ≤ 6) : mu (S ++ longer n tk lk th hd c) < mu (S ++ [c]) := by
  rw [mu_app, mu_app]
  have e1 : mu (longer n tk lk th hd c) = (longer n tk lk th hd c).length * 61 ^ (6 - c.length) := by
    unfold mu
    rw [sum_le (k := 61 ^ (6 - c.length)) fun x hx => ?_, List.length_map]
    obtain ⟨c', hc', rfl⟩ := List.mem_map.mp hx
    unfold wt
    rw [longer_len hc']
    congr 1
    omega
  have e2 : mu [c] = 61 * 61 ^ (6 - c.length) := by
    unfold mu wt
    rw [List.map_singleton, List.sum_singleton, show 7 - c.length = (6 - c.length) + 1 by omega, Nat.pow_succ, Nat.mul_comm]
  rw [e1, e2]
  have h1 := longer_cnt (n := n) (tk := tk) (lk := lk) (th := th) (hd := hd) (c := c)
  have h2 : 0 < 61 ^ (6 - c.length) := Nat.pow_pos (by decide)
  have h3 : (longer n tk lk th hd c).length * 61 ^ (6 - c.length) ≤ 60 * 61 ^ (6 - c.length) := Nat.mul_le_mul_right _ (by omega)
  have h4 : 60 * 61 ^ (6 - c.length) < 61 * 61 ^ (6 - c.length) := Nat.mul_lt_mul_of_pos_right (by decide) h2
  omega
structure Stk (S : List (List Nat)) : Prop where
  srt : S.Pairwise fun a b => a.length ≤ b.length
  cnt : ∀ l, (S.filter fun c => decide (c.length ≤ l)).length ≤ 60 * l
theorem stk0 (hn : n ≤ 60) : Stk ((takesL n tk).map fun p => [p]) := by
  have hlen : ((takesL n tk).map fun p => [p]).length ≤ 60 := by
    rw [List.length_map]
    unfold takesL
    have := List.length_filter_le tk (List.range n)
    rw [List.length_range] at this
    omega
  refine ⟨?_, fun l => ?_⟩
  · rw [List.pairwise_map]
    exact List.pairwise_of_forall fun _ _ => Nat.le_refl _
  · cases l with
    | zero =>
      rw [List.filter_eq_nil_iff.mpr]
      · simp
      · intro c hc z
        obtain ⟨p, _, rfl⟩ := List.mem_map.mp hc
        have := of_decide_eq_true z
        rw [List.length_singleton] at this
        omega
    | succ l =>
      have := List.length_filter_le (fun c : List Nat => decide (c.length ≤ l + 1)) ((takesL n tk).map fun p => [p])
      omega
theorem stk_step {S : List (List Nat)} {c : List Nat} (hn : n ≤ 60) (h : Stk (S ++ [c])) (h1 : 1 ≤ c.length) : Stk (S ++ longer n tk lk th hd c) := by
  have srt := h.srt
  rw [List.pairwise_append] at srt
  obtain ⟨s1, _, s3⟩ := srt
  have le : ∀ a ∈ S, a.length ≤ c.length := fun a ha => s3 a ha c (.head _)
  have all : S.length + 1 ≤ 60 * c.length := by
    have := h.cnt c.length
    rw [List.filter_eq_self.mpr] at this
    · rw [List.length_append, List.length_singleton] at this
      exact this
    · intro a ha
      rcases List.mem_append.mp ha with q | q
      · exact decide_eq_true (le a q)
      · rw [List.mem_singleton.mp q]; exact decide_eq_true (Nat.le_refl _)
  refine ⟨?_, fun l => ?_⟩
  · rw [List.pairwise_append]
    refine ⟨s1, ?_, fun a ha b hb => ?_⟩
    · rw [List.pairwise_iff_forall_sublist]
      intro a b hab
      have ha : a ∈ longer n tk lk th hd c := hab.subset (.head _)
      have hb : b ∈ longer n tk lk th hd c := hab.subset (.tail _ (.head _))
      rw [longer_len ha, longer_len hb]
      exact Nat.le_refl _
    · rw [longer_len hb]
      have := le a ha
      omega
  · rw [List.filter_append, List.length_append]
    by_cases q : c.length + 1 ≤ l
    · have a1 := List.length_filter_le (fun c : List Nat => decide (c.length ≤ l)) S
      have a2 := List.length_filter_le (fun c : List Nat => decide (c.length ≤ l)) (longer n tk lk th hd c)
      have a3 := longer_cnt (n := n) (tk := tk) (lk := lk) (th := th) (hd := hd) (c := c)
      omega
    · have e0 : (longer n tk lk th hd c).filter (fun c => decide (c.length ≤ l)) = [] := List.filter_eq_nil_iff.mpr fun c' hc' z => by
        have := of_decide_eq_true z
        rw [longer_len hc'] at this
        omega
      rw [e0]
      have := h.cnt l
      rw [List.filter_append, List.length_append] at this
      simp only [List.length_nil]
      omega
theorem stk_len {S : List (List Nat)} (h : Stk S) (h6 : ∀ c ∈ S, c.length ≤ 6) : S.length ≤ 360 := by
  have := h.cnt 6
  rw [List.filter_eq_self.mpr fun c hc => decide_eq_true (h6 c hc)] at this
  exact this
end
end RG
namespace L2
open PySem
def CompE (K : PySem.W.Frag) (nt : Nat) (fr : List Nat) (g : TG) (tt : TT) (te : TE) (σ : St) (H1 : Hp) (Q : VK) (a : Addr) : Prop :=
  ∀ D, H1 D = none → ∃ W : Nat → Nat → St → Hp → Prop, (∃ m, W 0 m (startC nt fr σ) (upd H1 D (.lst []))) ∧
      ∀ i m σ' H', W i m σ' H' → ((Ite K a).stop i H' ∧ Q (.ref D) H') ∨ ((Ite K a).go i H' ∧ ∃ N : St → Hp → Prop, (∀ σ2 H2, N σ2 H2 → ∃ m', m' < m ∧ W (i + 1) m' σ2 H2) ∧
        ∀ x H2, (Ite K a).yld i H' x H2 → g x σ' H2 fun σ2 H3 => tt σ2 H3 fun b H4 => if b = true then te σ2 H4 fun v H5 => ∃ ys, H5 D = some (.lst ys) ∧ ys.length < sizeLine ∧ N σ2 (upd H5 D (.lst (ys ++ [v]))) else N σ2 H4)
theorem tComp_enum {K : PySem.W.Frag} {nt : Nat} {fr : List Nat} {ta : TA} {g : TG} {tt : TT} {te : TE} {σ : St} {H : Hp} {Q : VK} :
    tComp nt fr (iEnum K ta) g tt te σ H Q = ta σ H (fun vs H1 => ∃ a, vs = [.ref a] ∧ (∃ xs, SqL K H1 a xs) ∧ CompE K nt fr g tt te σ H1 Q a) := rfl
theorem comp_enumF {K : PySem.W.Frag} {a : Addr} {xs : List V} {fr : List Nat} {tt : TT} {σ : St} {H1 : Hp} {Q : VK} (p : Nat → Bool) (ha : SqL K H1 a xs) (hz : xs.length < sizeLine)
    (ht : ∀ i x H3 (Qt : Bool → Hp → Prop), xs[i]? = some x → Same H1 H3 → (∀ H5, Same H3 H5 → Qt (p i) H5) → tt (some (.int (i : Int)) :: some x :: frV fr σ) H3 Qt)
    (fin : ∀ D H', H1 D = none → Same H1 H' → H' D = some (.lst (((List.range xs.length).filter p).map fun i : Nat => V.int (i : Int))) → Q (.ref D) H') :
    CompE K 2 fr (gTup K 2 (gCons (gName 0) (gCons (gName 1) gNil))) tt (tVar 0) σ H1 Q a := fun D hD => by
  refine comp_by (J := Ite K a) xs.length (fun i ys H' => ys = ((List.range i).filter p).map (fun i : Nat => V.int (i : Int)) ∧ Same H1 H') hz ⟨rfl, same_new hD⟩ (fun i ys H' hi ⟨_, s⟩ => ⟨xs, xs[i], s.seq ha, by simp [hi]⟩) (fun ys H' ⟨_, s⟩ => ⟨xs, s.seq ha, Nat.le_refl _⟩)
    (fun i ys H' o N hi ho ⟨e, s⟩ hd hys kT kF x H2 y => ?_) (fun ys H' ⟨e, s⟩ hd => fin D H' hD s (by rw [hd, e]))
  obtain ⟨t, z, ht0, rfl, rfl, y⟩ := y
  have hz' := y xs (s.seq ha)
  have sp : Same H' (upd H' t (.tup [.int (i : Int), z])) := same_new ht0
  match o, ho with
  | [o1, o2], _ =>
    refine ⟨t, _, rfl, SqT.of upd_same, rfl, _, _, rfl, _, _, rfl, rfl, ?_⟩
    refine ht i z _ _ hz' (s.trans sp) fun H5 s5 => ?_
    have hd5 := s5 _ _ (sp _ _ hd)
    have s15 := s.trans (sp.trans s5)
    cases hp : p i with
    | true =>
      rw [if_pos rfl]
      refine ⟨_, rfl, ys, hd5, hys, kT [some (.int (i : Int)), some z] (.int (i : Int)) H5 rfl ⟨?_, fun b o q => by rw [upd_ne (ne_of_none q hD)]; exact s15 _ _ q⟩⟩
      rw [e, List.range_succ, List.filter_append, List.map_append]
      simp [hp]
    | false =>
      rw [if_neg (by decide)]
      refine kF [some (.int (i : Int)), some z] H5 rfl hd5 ⟨?_, s15⟩
      rw [e, List.range_succ, List.filter_append, List.map_append]
      simp [hp]
end L2
namespace K
open PySem L2 RC
abbrev tkA (ds : List Deed) (p : Nat) : Bool := decide ((dAt ds p).2.1 = W.take)
abbrev lkA (ds : List Deed) (p : Nat) : Int := (dAt ds p).2.2
abbrev thA (ds : List Deed) (p : Nat) : Int := (dAt ds p).1
abbrev hdA (ds : List Deed) (p : Nat) : List Int := heldAt ds p
abbrev vI (i : Nat) : V := .int (i : Int)
def spTakes (CR : Addr) : Sp := fun vs H Q _ => ∃ (p : Addr) (m : Int) (xs : List V) (ds : List Deed), vs = [.ref p] ∧ RowAt CR H p m xs ∧ Deeds H xs ds ∧ ds.length ≤ 60 ∧
  ∀ (r : Addr) (H' : Hp), Same H H' → H r = none → H' r = some (.lst ((RG.takesL ds.length (tkA ds)).map vI)) → Q (.ref r) H'
theorem ndPD : (["place", "deed"] : List Str).Nodup := by decide +kernel
structure ChAt (H : Hp) (c : Addr) (n : Nat) (ch : List Nat) : Prop where
  e : H c = some (.lst (ch.map vI))
  ne : ch ≠ []
  lt : ∀ i ∈ ch, i < n
  l6 : ch.length ≤ 60
theorem ChAt.same {H H' : Hp} {c : Addr} {n : Nat} {ch : List Nat} (s : Same H H') (h : ChAt H c n ch) : ChAt H' c n ch := ⟨s _ _ h.e, h.ne, h.lt, h.l6⟩
theorem ChAt.last {H : Hp} {c : Addr} {n : Nat} {ch : List Nat} (h : ChAt H c n ch) : atI (ch.map vI) (-1) = some (vI (ch.getLastD 0)) ∧ ch.getLastD 0 < n := by
  have hne := h.ne
  have e : ch = ch.dropLast ++ [ch.getLastD 0] := by
    rw [List.getLastD_eq_getLast?, List.getLast?_eq_some_getLast hne]
    exact (List.dropLast_concat_getLast hne).symm
  refine ⟨?_, ?_⟩
  · conv => lhs; rw [e, List.map_append]
    exact atI_last _ _
  · refine h.lt _ ?_
    rw [List.getLastD_eq_getLast?, List.getLast?_eq_some_getLast hne]
    exact List.getLast_mem hne
theorem ChAt.head {H : Hp} {c : Addr} {n : Nat} {ch : List Nat} (h : ChAt H c n ch) : (ch.map vI)[0]? = some (vI (ch.headD 0)) ∧ ch.headD 0 < n := by
  cases ch with
  | nil => exact absurd rfl h.ne
  | cons a l => exact ⟨rfl, h.lt a (List.mem_cons_self ..)⟩
def spCloses (CR : Addr) : Sp := fun vs H Q _ => ∃ (p r c : Addr) (m : Int) (xs : List V) (ds : List Deed) (ts : List Addr) (ch : List Nat) (H0 : Hp), vs = [.ref p, .ref r, .ref c] ∧ RowAt CR H p m xs ∧ Deeds H xs ds ∧ ds.length ≤ 60 ∧ HelT H0 H r ds ts ∧ ChAt H c ds.length ch ∧
  Q (.bl (RG.closes (lkA ds) (hdA ds) ch)) H
def spCan (CR : Addr) : Sp := fun vs H Q _ => ∃ (p r c : Addr) (m : Int) (xs : List V) (ds : List Deed) (ts : List Addr) (ch : List Nat) (pl : Nat) (H0 : Hp), vs = [.ref p, .ref r, .ref c, .int (pl : Int)] ∧ RowAt CR H p m xs ∧ Deeds H xs ds ∧ ds.length ≤ 60 ∧ HelT H0 H r ds ts ∧ ChAt H c ds.length ch ∧ pl < ds.length ∧
  ∀ H', Same H H' → Q (.bl (RG.canF (lkA ds) (thA ds) (hdA ds) ch pl)) H'
section
variable {P : Program} {w : World} {K : PySem.W.Frag} {mg : Str → Option Value} {base : Heap}
theorem scTakes : FnScope ["row"] ["row"] (defScope s_takes) := ⟨rfl, rfl, rfl, by decide +kernel, rfl, by decide +kernel, by decide +kernel⟩
theorem ok_takes {f C aW aT CR fR : Addr} {fd fdR : FuncData} (F : Fun K "takes" "takes" s_takes f fd) (T : Txt K mg C aW aT) (R : TxtR K mg CR)
    (GR : FnOk P w K mg base CX0 1 fR fdR ["self"] (spRDs CR)) (bR : Binds K fdR ["self"] []) (mR : Meth K CR "deeds" fR) : FnOk P w K mg base CX0 2 f fd ["row"] (spTakes CR) := by
  refine F.ok scTakes (fun vs H Q E h => ?_) (fun cdv A outer s H vs Q E hr h => ?_)
  · obtain ⟨p, m, xs, ds, rfl, _⟩ := h
    rfl
  · obtain ⟨p, m, xs, ds, rfl, hR, hds, hlen, k⟩ := h
    have nd := scTakes.nd
    refine ⟨_, pss_one (ps_ret (pe_comp (N := ["place", "deed"]) (nt := 2) (fr := []) (g := gTup K 2 (gCons (gName 0) (gCons (gName 1) gNil))) (tt := tTest (tOp rEq (tOp (rIxT K) (tVar 1) (tC (.int 1))) (tC (.str "take")))) (te := tVar 0) rfl
          (.of (XN := ["row"]) (osc := defScope s_takes) rfl rfl rfl (by decide +kernel) (by decide +kernel) (by decide +kernel) rfl (by decide +kernel)) (pi_enum rfl T.enu (pa_cons (pe_meth0 (pv 0) R.cl mR GR hr bR .nil pass0) pa_nil))
          (fun _ _ _ _ _ _ => ⟨pg_tup rfl (pgs_cons (pg_name (i := 0) ndPD rfl (Or.inl rfl)) (pgs_cons (pg_name (i := 1) ndPD rfl (Or.inl rfl)) pgs_nil)), pif_one (pt_cmpR op_eq (pe_ix ix_tup (pv 1) pe_int (fun _ _ => rfl)) pe_str (nomark _)), pv 0⟩))), ?_⟩
    dsimp only [tRet]
    rw [tComp_enum]
    obtain ⟨dx, tp, e1, e2⟩ := id hR.ex
    refine ⟨_, rfl, p, dx, _, rfl, e1, rflds_no _ _ _ (by decide +kernel) (by decide +kernel) (by decide +kernel), p, m, xs, rfl, hR, fun ld nld => ?_⟩
    have s1 := same_new (o := .lst xs) nld
    have e3 : upd H ld (.lst xs) ld = some (.lst xs) := upd_same
    generalize upd H ld (.lst xs) = H1 at s1 e3
    refine ⟨ld, rfl, ⟨_, SqL.of e3⟩, comp_enumF (tkA ds) (SqL.of e3) (small1000 (by rw [hds.len]; omega)) (fun i x H3 Qt hx s3 qt => ?_) (fun D H' hD s' e => k D H' (s1.trans s') (s1.free hD) (by rw [e, hds.len]; rfl))⟩
    obtain ⟨r, t, wd, z, rfl, er, ed⟩ := (hds.same (s1.trans s3)).get hx
    refine ⟨_, rfl, r, _, 1, _, rfl, rfl, SqT.of er, rfl, rfl, _, rfl, ?_⟩
    rw [dec_str']
    have e4 : dAt ds i = (t, wd, z) := by unfold dAt; rw [List.getD_eq_getElem?_getD, ed]; rfl
    have := qt H3 (Same.refl _)
    unfold tkA at this
    rw [e4] at this
    exact this
theorem scCloses : FnScope ["row", "locks", "chain"] ["row", "locks", "chain"] (defScope s_closes) := ⟨rfl, rfl, rfl, by decide +kernel, rfl, by decide +kernel, by decide +kernel⟩
theorem ok_closes {f CR fD : Addr} {fd fdD : FuncData} (F : Fun K "closes" "closes" s_closes f fd) (R : TxtR K mg CR)
    (GD : FnOk P w K mg base CX0 1 fD fdD ["self", "place"] (spDeed CR)) (bD : Binds K fdD ["self", "place"] []) (mD : Meth K CR "deed" fD) : FnOk P w K mg base CX0 2 f fd ["row", "locks", "chain"] (spCloses CR) := by
  refine F.ok scCloses (fun vs H Q E h => ?_) (fun cdv A outer s H vs Q E hr h => ?_)
  · obtain ⟨p, r, c, m, xs, ds, ts, ch, H0, rfl, _⟩ := h
    rfl
  · obtain ⟨p, r, c, m, xs, ds, ts, ch, H0, rfl, hR, hds, hlen, G, C, k⟩ := h
    have nd := scCloses.nd
    refine ⟨_, pss_one (ps_ret (pe_cmpR op_in_seq (pe_ix ix_tup (pe_meth (pv 0) R.cl mD GD hr bD .nil pass0 (pa_cons (pe_ix ix_list (pv 2) (pe_un un_neg pe_int) (fun _ _ => rfl)) pa_nil)) pe_int (fun _ _ => rfl)) (pe_ix ix_list (pv 1) (pe_ix ix_list (pv 2) pe_int (fun _ _ => rfl)) (fun _ _ => rfl)) (by with_unfolding_all rfl))), ?_⟩
    obtain ⟨l1, l2⟩ := C.last
    obtain ⟨h1, h2⟩ := C.head
    obtain ⟨dx, tp, e1, e2⟩ := id hR.ex
    obtain ⟨rd, exd, ed⟩ := hds.ref l2
    have hts : ch.headD 0 < ts.length := by rw [G.lt]; exact h2
    refine ⟨_, rfl, p, dx, _, rfl, e1, rflds_no _ _ _ (by decide +kernel) (by decide +kernel) (by decide +kernel), _, rfl, _, rfl, c, _, _, vI (ch.getLastD 0), rfl, rfl, SqL.of C.e, l1, p, m, xs, ch.getLastD 0, .ref rd, rfl, hR, exd, rd, _, 2, _, rfl, rfl, SqT.of ed, rfl,
      _, rfl, _, rfl, c, _, 0, vI (ch.headD 0), rfl, rfl, SqL.of C.e, atI_nat (j := 0) h1, r, _, _, .ref ts[ch.headD 0], rfl, rfl, SqL.of G.er, atI_nat (by rw [List.getElem?_map, List.getElem?_eq_getElem hts]; rfl), ts[ch.headD 0], _, rfl, .inl (SqL.of (G.vt (ch.headD 0) _ (List.getElem?_eq_getElem hts)).1), rfl, ints_flat _, ?_⟩
    rw [if_neg (by decide), inV_ints]
    exact k
end
end K
namespace K
open PySem L2 RC
abbrev nCan : List Str := ["row", "locks", "chain", "place", "other"]
abbrev canP (ds : List Deed) (pl : Nat) (o : Nat) : Bool := !decide (thA ds o = thA ds pl) && (RG.com (hdA ds o) (hdA ds pl)).isEmpty
section
variable {P : Program} {w : World} {K : PySem.W.Frag} {mg : Str → Option Value} {base : Heap}
theorem scCan : FnScope nCan ["row", "locks", "chain", "place"] (defScope s_can_follow) := ⟨rfl, rfl, rfl, by decide +kernel, rfl, by decide +kernel, by decide +kernel⟩
theorem ok_can {f CR fD fC : Addr} {fd fdD fdC : FuncData} (F : Fun K "can_follow" "can_follow" s_can_follow f fd) (R : TxtR K mg CR)
    (GD : FnOk P w K mg base CX0 1 fD fdD ["self", "place"] (spDeed CR)) (bD : Binds K fdD ["self", "place"] []) (mD : Meth K CR "deed" fD)
    (GC : FnOk P w K mg base CX0 1 fC fdC ["some", "others"] (spCom K)) (cC : Cal K mg "in_common" fC fdC ["some", "others"]) : FnOk P w K mg base CX0 2 f fd ["row", "locks", "chain", "place"] (spCan CR) := by
  refine F.ok scCan (fun vs H Q E h => ?_) (fun cdv A outer s H vs Q E hr h => ?_)
  · obtain ⟨p, r, c, m, xs, ds, ts, ch, pl, H0, rfl, _⟩ := h
    rfl
  · obtain ⟨p, r, c, m, xs, ds, ts, ch, pl, H0, rfl, hR, hds, hlen, G, C, hpl, k⟩ := h
    have nd := scCan.nd
    refine ⟨_, pss_cons (ps_if (pt_cmpR op_notIn_seq (pe_ix ix_tup (pe_meth (pv 0) R.cl mD GD hr bD .nil pass0 (pa_cons (pe_ix ix_list (pv 2) (pe_un un_neg pe_int) (fun _ _ => rfl)) pa_nil)) pe_int (fun _ _ => rfl)) (pe_ix ix_list (pv 1) (pv 3) (fun _ _ => rfl)) (by with_unfolding_all rfl)) (pss_one (ps_ret pe_bl)) pss_nil)
      (pss_cons (ps_for PassesOwn.never rfl (pi_list (pv 2)) (pg_name (i := 4) nd rfl (Or.inl rfl))
        (pss_one (ps_if (PW.pt (pw_or (pt_cmpR op_eq (pe_ix ix_tup (pe_meth (pv 0) R.cl mD GD hr bD .nil pass0 (pa_cons (pv 4) pa_nil)) pe_int (fun _ _ => rfl)) (pe_ix ix_tup (pe_meth (pv 0) R.cl mD GD hr bD .nil pass0 (pa_cons (pv 3) pa_nil)) pe_int (fun _ _ => rfl)) (nomark _))
            (pw_or1 (pt_truth (pe_call GC hr rfl cC.mgf cC.kp cC.b .nil pass0 (pa_cons (pe_ix ix_list (pv 1) (pv 4) (fun _ _ => rfl)) (pa_cons (pe_ix ix_list (pv 1) (pv 3) (fun _ _ => rfl)) pa_nil))) (fun _ => rfl))))) (pss_one (ps_ret pe_bl)) pss_nil)))
      (pss_one (ps_ret pe_bl))), ?_⟩
    obtain ⟨l1, l2⟩ := C.last
    obtain ⟨dx, tp, e1, e2⟩ := id hR.ex
    obtain ⟨rd, exd, ed⟩ := hds.ref l2
    have tlt : ∀ i, i < ds.length → i < ts.length := fun i hi => by rw [G.lt]; exact hi
    have tget : ∀ i (hi : i < ds.length), (ts.map V.ref)[i]? = some (.ref (ts[i]'(tlt i hi))) := fun i hi => by rw [List.getElem?_map, List.getElem?_eq_getElem (tlt i hi)]; rfl
    have thel : ∀ i (hi : i < ds.length), H (ts[i]'(tlt i hi)) = some (.lst ((heldAt ds i).map V.int)) := fun i hi => (G.vt i _ (List.getElem?_eq_getElem (tlt i hi))).1
    have kk : ∀ b : Bool, (RG.canF (lkA ds) (thA ds) (hdA ds) ch pl = b) → ∀ H', Same H H' → Q (.bl b) H' := fun b e => by rw [← e]; exact k
    have no := rflds_no m xs.length tp (x := "deed") (by decide +kernel) (by decide +kernel) (by decide +kernel)
    refine PuT.ifs (c := ¬ lkA ds (ch.getLastD 0) ∈ hdA ds pl) (fun Qt q => ⟨_, rfl, p, dx, _, rfl, e1, no, _, rfl, _, rfl, c, _, _, vI (ch.getLastD 0), rfl, rfl, SqL.of C.e, l1, p, m, xs, ch.getLastD 0, .ref rd, rfl, hR, exd, rd, _, 2, _, rfl, rfl, SqT.of ed, rfl,
      _, rfl, _, rfl, r, _, _, .ref _, rfl, rfl, SqL.of G.er, atI_nat (tget pl hpl), _, _, rfl, .inl (SqL.of (thel pl hpl)), rfl, ints_flat _, _, rfl, by rw [if_pos rfl, inV_ints, ← decide_not]; exact q⟩) (fun z => ?_) (fun z => ?_)
    · refine kk false ?_ H (Same.refl _)
      unfold RG.canF
      rw [decide_eq_false z, Bool.false_and]
    have z := Decidable.not_not.mp z
    have ec : RG.canF (lkA ds) (thA ds) (hdA ds) ch pl = ch.all (canP ds pl) := by
      unfold RG.canF
      rw [decide_eq_true z, Bool.true_and]
    rw [ec] at kk
    refine ⟨_, rfl, c, rfl, ⟨_, SqL.of C.e⟩, for_list (K := K) (a := c) (xs := ch.map vI) (fun i σ HC => ∃ (v4 : Option V), σ = [some (.ref p), some (.ref r), some (.ref c), some (.int (pl : Int)), v4] ∧ Same H HC ∧ (ch.take i).all (canP ds pl) = true)
      ⟨none, rfl, Same.refl _, rfl⟩ (fun i σ HC _ ⟨_, _, sC, _⟩ => SqL.of (sC _ _ C.e)) ?_ ?_⟩
    · rintro i y σ HC hy ⟨v4, rfl, sC, ha⟩
      obtain ⟨o, eo, rfl⟩ : ∃ o, ch[i]? = some o ∧ y = vI o := by
        rw [List.getElem?_map] at hy
        obtain ⟨o, h1, h2⟩ := Option.map_eq_some_iff.mp hy
        exact ⟨o, h1, h2.symm⟩
      have hol : o < ds.length := C.lt o (List.mem_of_getElem? eo)
      have htk : ch.take (i + 1) = ch.take i ++ [o] := take_snoc eo
      dsimp only [gName]
      obtain ⟨ro, exo, eo'⟩ := (hds.same sC).ref hol
      obtain ⟨rp, exp, ep'⟩ := (hds.same sC).ref hpl
      have hRC := hR.same sC
      have e1C := sC _ _ e1
      have erC := sC _ _ G.er
      refine PuS.if1 (c := canP ds pl o = false) ((PuS.or (a := decide (thA ds o = thA ds pl)) (b := !(RG.com (hdA ds o) (hdA ds pl)).isEmpty)
          (PuT.pus (fun Qt q => ⟨_, rfl, p, dx, _, rfl, e1C, no, _, rfl, p, m, xs, o, .ref ro, rfl, hRC, exo, ro, _, 0, _, rfl, rfl, SqT.of eo', rfl, _, rfl, p, dx, _, rfl, e1C, no, _, rfl, p, m, xs, pl, .ref rp, rfl, hRC, exp, rp, _, 0, _, rfl, rfl, SqT.of ep', rfl, rfl, _, rfl, by rw [dec_int']; exact q⟩))
          (fun _ HD sD Qt q => ⟨_, rfl, _, rfl, r, _, _, .ref _, rfl, rfl, SqL.of (sD _ _ erC), atI_nat (tget o hol), _, rfl, _, rfl, r, _, _, .ref _, rfl, rfl, SqL.of (sD _ _ erC), atI_nat (tget pl hpl), _, _, heldAt ds o, heldAt ds pl, rfl, (sC.trans sD) _ _ (thel o hol), (sC.trans sD) _ _ (thel pl hpl), by have := heldAt_len (ds := ds) (k := o); omega,
            fun rr H'' s'' nrr err => ⟨_, .inl ⟨_, SqL.of err, rfl⟩, ?tr⟩⟩)).iff ?_) (fun HD sD z2 => ?_) (fun HD sD z2 => ?_)
      case tr =>
        have e : (!((both (heldAt ds o) (heldAt ds pl)).map V.int).isEmpty) = !(RG.com (hdA ds o) (hdA ds pl)).isEmpty := by
          show (!((RG.com (heldAt ds o) (heldAt ds pl)).map V.int).isEmpty) = _
          cases RG.com (heldAt ds o) (heldAt ds pl) <;> rfl
        rw [e]
        exact q H'' s''
      · unfold canP
        cases decide (thA ds o = thA ds pl) <;> cases (RG.com (hdA ds o) (hdA ds pl)).isEmpty <;> simp
      · refine kk false ?_ HD (sC.trans sD)
        refine Bool.eq_false_iff.mpr fun h => ?_
        have := List.all_eq_true.mp h o (List.mem_of_getElem? eo)
        rw [z2] at this
        cases this
      · refine ⟨_, rfl, sC.trans sD, ?_⟩
        rw [htk, List.all_append, ha, List.all_cons, List.all_nil]
        have : canP ds pl o = true := by simpa using z2
        rw [this]
        rfl
    · rintro σ HC ⟨v4, rfl, sC, ha⟩
      rw [List.length_map, List.take_length] at ha
      exact kk true ha HC sC
end
end K
namespace L2
open PySem RC
end L2
namespace L2
open PySem PySem.Spec PyProof.Rows
def cxN (X : Cx) (pins : List (Addr × Obj)) (N : List Str) (scope : Scope) (x : Str) (cl : List (Str × Addr)) (C c : Addr) (s : Shared) (H : Hp) (fp : List Addr) : Cx where
  prog := X.prog
  w := X.w
  K := X.K
  mg := X.mg
  base := X.base
  A := X.A
  N := N
  s₀ := s
  H₀ := H
  env := compEnvC scope ((x, c) :: cl) C X.env
  outer := X.stack
  stack := X.stack
  ex := fp
  fn := fun y => decide (y = x)
  calm := X.calm
  pn := X.pn ++ pins
  xe := fun _ _ => False
structure CompScopeN (X : Cx) (N : List Str) (nt : Nat) (fr : List Nat) (scope : Scope) (x : Str) : Prop where
  kind : scope.kind = .function
  only : ∀ y ∈ scope.names, y.2 = .cell → y.1 = x
  lk : scope.names.lookup x = some .cell
  cells : ∀ n cl, cellsFrom n scope.names cl = (x, n) :: cl
  push : ∀ h : Heap, pushCells h scope.names = h.push { cls := .type "cell", data := .cell none }
  names : ∀ y ∈ scope.names, y.2 = .local → scope.names.lookup y.1 = some .local
  free : ∀ y ∈ scope.names, y.2 = .free → X.env.kindOf y.1 = some .cell
  len : N.length = nt + fr.length
  tie : tieOk X.N N scope.names nt fr = true
theorem wpAny_newFunctionEnvN {M : Model} {A : Around} {E : Value → Shared → Prop} {s : Shared} {scope : Scope} {globals : Addr} {cl : List (Str × Addr)} {qual : Str} {env : Env} {Q : Env → Shared → Prop} {x : Str} (hc : ∀ n cl, cellsFrom n scope.names cl = (x, n) :: cl)
    (hp : ∀ h : Heap, pushCells h scope.names = h.push { cls := .type "cell", data := .cell none })
    (hQ : Q (newEnv scope s.heap.objs.size globals ((x, s.heap.objs.size + 1) :: cl) qual none .none (some env) builtinsNs) { s with heap := (s.heap.push { cls := .type "dict", data := .dict #[] }).push { cls := .type "cell", data := .cell none } }) :
    wpAny M A (newFunctionEnv scope globals cl [] qual none .none (some env)) Q E s := by
  simp only [newFunctionEnv, Option.isSome_some, if_true]
  refine wpAny_bind (wpAny_alloc ?_)
  refine wpAny_bind (wpAny_layCells _ (fun name kind cells => by cases hkc : kind == NameKind.cell <;> simp [hkc]) _ _ _ _ ?_)
  rw [hc, hp]
  rw [show ({ s with heap := s.heap.push { cls := .type "dict", data := .dict #[] } } : Shared).heap.objs.size = s.heap.objs.size + 1 from Heap.size_push ..]
  rw [List.forIn_nil]
  exact wpAny_bind (wpAny_pure (wpAny_pure hQ))
theorem relabel_memN {scope : Scope} {env : Env} {x y : Str} {k : NameKind} (hc : ∀ y ∈ scope.names, y.2 = .cell → y.1 = x) (h : (relabel scope env).names.lookup y = some k) (hk : k = .cell ∨ k = .free) : (y, NameKind.free) ∈ scope.names ∨ y = x := by
  have hm := PySem.mem_of_lookup h
  unfold relabel at hm
  obtain ⟨⟨n, q⟩, hy, e⟩ := List.mem_map.mp hm
  dsimp only at e
  by_cases z : (q == NameKind.free && env.scope.kind == .function && env.kindOf n == some .cell) = true
  · rw [if_pos z] at e
    have hq : q = NameKind.free := by
      simp only [Bool.and_eq_true] at z
      simpa using z.1.1
    cases e
    subst hq
    exact .inl hy
  · rw [if_neg z] at e
    cases e
    rcases hk with hk | hk
    · exact .inr (hc _ hy hk)
    · subst hk
      exact .inl hy
section
variable {X : Cx} {pins : List (Addr × Obj)} {σ : St} {H : Hp} {s : Shared}
theorem lookup_two {x y : Str} {c : Addr} {cl : List (Str × Addr)} {d : Addr} (h : ((x, c) :: cl).lookup y = some d) : (y = x ∧ d = c) ∨ (y ≠ x ∧ cl.lookup y = some d) := by
  rw [List.lookup_cons] at h
  cases e : y == x with
  | true => rw [e] at h; exact .inl ⟨by simpa using e, (Option.some.inj h).symm⟩
  | false => rw [e] at h; exact .inr ⟨by simpa using e, h⟩
theorem Inv.blockN {N : List Str} {nt : Nat} {fr : List Nat} {scope : Scope} {fp : List Addr} {h1 : Heap} {C c : Addr} {x : Str} {tk : Nat} {m : Str → Option Value} (I : Inv X pins σ H s) (S : CompScopeN X N nt fr scope x) (hC : C = s.heap.objs.size) (hcc : c = s.heap.objs.size + 1) (hn : h1.Ns C m) (hcell : h1.IsCell c none)
    (hk : ∀ b o, s.heap.get? b = some o → h1.get? b = some o) (hf : ∀ b ∈ fp, FpOk X pins H b) (ho : ∀ b ∈ fp, b < s.heap.objs.size) :
    Inv (cxN X pins N scope x (closC X.env scope.names []) C c s H fp) [] (startC nt fr σ) H { s with heap := h1, toks := tk } := by
  have hfree : ∀ x ∈ scope.names, x.2 = NameKind.free → ∃ c, X.env.cells.lookup x.1 = some c := fun x hx e => I.ok.has x.1 (.inl (S.free x hx e))
  have cls : ∀ x c, (closC X.env scope.names []).lookup x = some c → X.env.cells.lookup x = some c := closC_lookup scope.names [] hfree (fun x c e => by simp at e)
  have old : ∀ y d, (closC X.env scope.names []).lookup y = some d → d < s.heap.objs.size := fun y d e => by
    obtain ⟨v, o, e', _⟩ := I.cell y d (cls y d e)
    exact Heap.lt_size e'
  have stk : ∀ b ∈ fp, b ∉ frs X.stack := fun b hb z => by
    obtain ⟨f0, f1, f2, _⟩ := hf b hb
    rcases List.mem_cons.mp (I.stkSub b z) with e | e
    · exact f1 e
    · exact f2 e
  refine ⟨⟨I.ok.mod, S.kind, I.ok.glob, I.ok.blt, by rw [hC]; exact Nat.le_refl _, fun y z d e1 e2 => ?_, fun y e => ?_, fun y d e1 e2 => ?_, I.ok.hd, I.ok.frames, .inl rfl, fun b hb => ⟨?_, fun y d e => ?_⟩,
      fun b o e => I.bs b o e, Nat.le_trans I.ok.bsz I.sz, fun b o e hb => ?_, stk, I.stack, I.stkFree⟩,
    rfl, I.bare, Un.kept hk, ⟨m, hn, fun j y v e1 e2 e3 => ?_⟩, fun y d e => ?_, ?_, fun y d e => ?_, fun p hp => ?_, I.hok.kept hk, ?_⟩
  · rcases lookup_two e1 with ⟨a1, a2⟩ | ⟨a1, a2⟩ <;> rcases lookup_two e2 with ⟨b1, b2⟩ | ⟨b1, b2⟩
    · rw [a1, b1]
    · have h := old z d b2; rw [a2, hcc] at h; exact absurd h (Nat.not_lt.mpr (Nat.le_succ _))
    · have h := old y d a2; rw [b2, hcc] at h; exact absurd h (Nat.not_lt.mpr (Nat.le_succ _))
    · exact I.ok.inj y z d (cls y d a2) (cls z d b2)
  · have hm : (y, NameKind.free) ∈ scope.names ∨ y = x := by
      rcases e with e | e
      · exact relabel_memN S.only e (.inl rfl)
      · exact relabel_memN S.only e (.inr rfl)
    show ∃ d, ((x, c) :: closC X.env scope.names []).lookup y = some d
    rw [List.lookup_cons]
    cases q : y == x with
    | true => exact ⟨c, rfl⟩
    | false =>
      rcases hm with hm | hm
      · exact Option.isSome_iff_exists.mp (closC_has scope.names [] y hm)
      · rw [hm] at q; simp at q
  · have e1' : y = x := of_decide_eq_true e1
    rcases lookup_two e2 with ⟨a1, a2⟩ | ⟨a1, a2⟩
    · rw [a2, hcc]; exact Nat.le_succ _
    · exact absurd e1' a1
  · intro z
    have := ho b hb
    rw [z] at this
    have e : (cxN X pins N scope x (closC X.env scope.names []) C c s H fp).env.locals = s.heap.objs.size := hC
    rw [e] at this
    exact Nat.lt_irrefl _ this
  · rcases lookup_two e with ⟨a1, a2⟩ | ⟨a1, a2⟩
    · intro z
      have h := ho b hb
      rw [← z, a2, hcc] at h
      exact absurd h (Nat.not_lt.mpr (Nat.le_succ _))
    · exact (hf b hb).2.2.2.2.1 y d (cls y d a2)
  · have hb' : b ∈ fp := hb
    rcases (hf b hb').2.2.2.1 with z | z
    · exact I.ok.noex b o e z
    · exact absurd (Nat.lt_of_lt_of_le (Heap.lt_size (I.ok.bs b o e).1) z) (Nat.lt_irrefl _)
  · have e1 : N[j]? = some y := e1
    by_cases hj : j < nt
    · unfold startC at e2
      rw [List.getElem?_append_left (by simpa using hj), List.getElem?_replicate, if_pos hj] at e2
      cases e2
    · obtain ⟨d, rfl⟩ : ∃ d, j = nt + d := ⟨j - nt, by omega⟩
      unfold startC at e2
      rw [List.getElem?_append_right (by simp), List.length_replicate, Nat.add_sub_cancel_left, List.getElem?_map] at e2
      cases q : fr[d]? with
      | none => rw [q] at e2; cases e2
      | some i =>
        rw [q] at e2
        have e2' : (σ[i]?).join = some v := Option.some.inj e2
        have e2'' : σ[i]? = some (some v) := by
          cases z : σ[i]? with
          | none => rw [z] at e2'; cases e2'
          | some o => rw [z] at e2'; rw [show o = some v from e2']
        obtain ⟨hx, hl⟩ := tie_get S.tie q e1
        have nyx : ¬ (y == x) = true := fun z => by
          have z' : y = x := by simpa using z
          rw [z', S.lk] at hl
          cases hl
        have hkx : X.env.kindOf y = some .cell := S.free (y, .free) (PySem.mem_of_lookup hl) rfl
        obtain ⟨m', hn', hl'⟩ := I.loc
        obtain ⟨u, r, lk⟩ := hl' i y v hx e2'' (.inr (.inl hkx))
        refine ⟨u, r, .inr ⟨.inl ?_, ?_⟩⟩
        · exact lookup_relabel_free (scope := scope) I.ok.kind hl hkx
        · rcases lk with ⟨hk', _⟩ | ⟨_, c0, hc, hcell'⟩
          · rw [hkx] at hk'; cases hk'
          · obtain ⟨c', hc'⟩ := Option.isSome_iff_exists.mp (closC_has (env := X.env) scope.names [] y (PySem.mem_of_lookup hl))
            have := cls y c' hc'
            rw [hc] at this
            cases this
            obtain ⟨o, ho', hd⟩ := hcell'
            refine ⟨c0, ?_, o, hk c0 o ho', hd⟩
            show ((x, c) :: closC X.env scope.names []).lookup y = some c0
            rw [List.lookup_cons, show (y == x) = false by simpa using nyx]
            exact hc'
  · rcases lookup_two e with ⟨a1, a2⟩ | ⟨a1, a2⟩
    · rw [a2]; exact ⟨none, hcell⟩
    · obtain ⟨v, o, e', d'⟩ := I.cell y d (cls y d a2)
      exact ⟨v, o, hk d o e', d'⟩
  · show H C = none
    rw [hC]
    exact I.hok.fresh (Nat.le_refl _)
  · rcases lookup_two e with ⟨a1, a2⟩ | ⟨a1, a2⟩
    · rw [a2, hcc]; exact I.hok.fresh (Nat.le_succ _)
    · exact I.freeC y d (cls y d a2)
  · have hp' : p ∈ X.pn ++ pins := by
      have z : p ∈ (X.pn ++ pins) ++ [] := hp
      rwa [List.append_nil] at z
    obtain ⟨e, n, ne, nf, d⟩ := I.pin p hp'
    refine ⟨hk _ _ e, n, ?_, fun z => ?_, d⟩
    · show p.1 ≠ C
      rw [hC]
      exact Nat.ne_of_lt (Heap.lt_size e)
    · rcases List.mem_cons.mp (I.stkSub p.1 z) with q | q
      · exact ne q
      · exact nf q
  · show (startC nt fr σ).length = N.length
    unfold startC
    rw [List.length_append, List.length_replicate, List.length_map, S.len]
theorem Inv.unblockN {N : List Str} {scope : Scope} {x : Str} {cl : List (Str × Addr)} {fp : List Addr} {C c : Addr} {s3 s' : Shared} {pins' : List (Addr × Obj)} {σ' : St} {H' : Hp} (I : Inv X pins σ H s3) (hf : ∀ b ∈ fp, FpOk X pins H b)
    (J : Inv (cxN X pins N scope x cl C c s3 H fp) pins' σ' H' s') : Inv X pins σ H' s' :=
  I.call' (ch := fp) J.os J.base J.hok J.bare fun b hb => ⟨(hf b hb).2.2.2.1, (hf b hb).2.1, (hf b hb).2.2.2.2.1, (hf b hb).2.2.2.2.2⟩
theorem comp_core2N {elt tg iter : Expr} {ifs : List Expr} {scope : Scope} {pos : Pos} {x : Str} {N : List Str} {nt : Nat} {fr : List Nat} {g : TG} {tt : TT} {te : TE} {use : Option (Value → Sem Unit)} {Qv : Value → Shared → Prop} {Q : VK}
    {J : It} {fp : List Addr} {it D : Addr} {tn : Nat → Heap → Prop} {W : Nat → Nat → St → Hp → Prop} {m0 : Nat} {h₁ : Heap} {mC : Str → Option Value} {tk : Nat}
    (I3 : Inv X pins σ H s) (hcalm : X.calm = true) (S : CompScopeN X N nt fr scope x)
    (hb : ∀ pins' cl C c s3 H3 fp, let Y := cxN X pins' N scope x cl C c s3 H3 fp; PG Y tg g ∧ PIfs Y ifs tt ∧ PE Y elt te)
    (T : Turn X.prog X.w X.K tg J fp it tn) (st2 : tn 0 s.heap) (f3 : ∀ b ∈ fp, FpOk X pins H b) (w0 : W 0 m0 (startC nt fr σ) H)
    (turn : ∀ i m σ' H', W i m σ' H' → (J.stop i H' ∧ Q (.ref D) H') ∨ (J.go i H' ∧ ∃ N : St → Hp → Prop, (∀ σ2 H2, N σ2 H2 → ∃ m', m' < m ∧ W (i + 1) m' σ2 H2) ∧
      ∀ x H2, J.yld i H' x H2 → g x σ' H2 fun σ2 H3 => tt σ2 H3 fun b H4 => if b = true then te σ2 H4 fun v H5 => ∃ ys, H5 D = some (.lst ys) ∧ ys.length < sizeLine ∧ N σ2 (upd H5 D (.lst (ys ++ [v]))) else N σ2 H4))
    (hns₁ : h₁.Ns s.heap.objs.size mC) (hce₁ : h₁.IsCell (s.heap.objs.size + 1) none) (kept : ∀ b o, s.heap.get? b = some o → h₁.get? b = some o)
    (fin : ∀ D C s' H' m, Inv X pins σ H' s' → s'.heap.Ns C m → FpOk X pins H' C → Q (.ref D) H' → compPost (model X.prog X.w) X.A X.xe use Qv (.ref D) C (.ok .next) s') :
    codeAny (model X.prog X.w) X.A (.compStart (.ListComp elt [⟨tg, iter, ifs, 0⟩] scope pos) 0 (.ref it) (.ref D) (compEnvC scope ((x, s.heap.objs.size + 1) :: closC X.env scope.names []) s.heap.objs.size X.env))
      (compPost (model X.prog X.w) X.A X.xe use Qv (.ref D) s.heap.objs.size) { s with heap := h₁, toks := tk } := by
  have ofp : ∀ b ∈ fp, b < s.heap.objs.size := fun b hb => by
    obtain ⟨o, e, _⟩ := T.obj _ _ st2 b hb
    exact Heap.lt_size e
  have J4 := I3.blockN (N := N) (nt := nt) (fr := fr) (scope := scope) (fp := fp) (h1 := h₁) (C := s.heap.objs.size) (c := s.heap.objs.size + 1) (x := x) (tk := tk) S rfl rfl hns₁ hce₁ kept f3 ofp
  generalize hY : cxN X pins N scope x (closC X.env scope.names []) s.heap.objs.size (s.heap.objs.size + 1) s H fp = Y at J4
  have body := hb pins (closC X.env scope.names []) s.heap.objs.size (s.heap.objs.size + 1) s H fp
  rw [hY] at body
  obtain ⟨bg, bt, be⟩ := body
  have eP : Y.prog = X.prog := by rw [← hY]; rfl
  have eW : Y.w = X.w := by rw [← hY]; rfl
  have eK : Y.K = X.K := by rw [← hY]; rfl
  have eA : Y.A = X.A := by rw [← hY]; rfl
  have eC : Y.calm = true := by rw [← hY]; exact hcalm
  have eE : Y.env = compEnvC scope ((x, s.heap.objs.size + 1) :: closC X.env scope.names []) s.heap.objs.size X.env := by rw [← hY]; rfl
  have eX : Y.xe = fun _ _ => False := by rw [← hY]; rfl
  have eN : Y.ex = fp := by rw [← hY]; rfl
  have fY : ∀ {H' : Hp} {s' : Shared} {σ' : St}, Inv Y [] σ' H' s' → (∀ b ∈ fp, H' b = none) → ∀ b ∈ fp, FpOk Y [] H' b := fun {H' s' σ'} J' hn b hbf => by
    obtain ⟨e1, e2⟩ := J'.ok.exf b (by rw [eN]; exact hbf)
    refine ⟨hn b hbf, e1, J'.ok.exfs b (by rw [eN]; exact hbf), .inl (by rw [eN]; exact hbf), e2, fun p hp => ?_⟩
    have hp' : p ∈ X.pn ++ pins := by
      have z : p ∈ Y.pn ++ [] := hp
      rw [List.append_nil, ← hY] at z
      exact z
    exact (f3 b hbf).2.2.2.2.2 p hp'
  have st4 : tn 0 h₁ := T.keep _ _ _ st2 fun b hbf o e => kept b o e
  have fin' : ∀ {σ' : St} {H' : Hp} {s' : Shared}, Inv Y [] σ' H' s' → Q (.ref D) H' → compPost (model X.prog X.w) X.A X.xe use Qv (.ref D) s.heap.objs.size (.ok .next) s' := fun {σ' H' s'} J' q' => by
    obtain ⟨m', hn', _⟩ := J'.loc
    have e : Y.env.locals = s.heap.objs.size := by rw [eE]; rfl
    rw [e] at hn'
    have I' : Inv X pins σ H' s' := by
      rw [← hY] at J'
      exact I3.unblockN f3 J'
    have hfree' : H' s.heap.objs.size = none := by
      have z := J'.free
      rw [e] at z
      exact z
    exact fin D s.heap.objs.size s' H' m' I' hn' (I3.fpOk (Nat.le_refl _) hfree') q'
  have loop : codeAny (model X.prog X.w) X.A (.compLoop (.ListComp elt [⟨tg, iter, ifs, 0⟩] scope pos) 0 (.ref it) (.ref D) (compEnvC scope ((x, s.heap.objs.size + 1) :: closC X.env scope.names []) s.heap.objs.size X.env))
      (compPost (model X.prog X.w) X.A X.xe use Qv (.ref D) s.heap.objs.size) { s with heap := h₁, toks := tk } := by
    refine compLoop_any (fun n s' => ∃ i σ' H', Inv Y [] σ' H' s' ∧ tn i s'.heap ∧ (∀ b ∈ fp, H' b = none) ∧ W i n σ' H') ?_ m0 ⟨0, _, _, J4, st4, fun b hbf => (f3 b hbf).1, w0⟩
    rintro n s5 ⟨i, σ5, H5, J5, st5, fr5, w5⟩
    rcases turn i n σ5 H5 w5 with ⟨stop, qn⟩ | ⟨go, Nn, hN, step⟩
    · rw [← eA]
      refine wpAny_mono (T.done Y eP eW eK eC i [] s5 σ5 H5 (fun _ _ => False) J5 (fY J5 fr5) st5 stop) (fun r s6 ⟨hr, J6⟩ => ?_) fun _ _ z => z
      subst hr
      rw [eA]
      exact fin' J6 qn
    · rw [← eA]
      refine wpAny_mono (T.item Y eP eW eK eC i [] s5 σ5 H5 (fun _ _ => False) J5 (fY J5 fr5) st5 go) (fun r s6 ⟨u, hr, h6⟩ => ?_) fun _ _ z => z
      subst hr
      refine wpAny_mono h6 (fun _ s7 ⟨x, H7, J7, r7, y7, st7, fr7⟩ => ?_) fun _ _ z => z
      have J7' := J7.pinned (fY J7 fr7) (T.obj _ _ st7)
      have a1 := bg _ s7 σ5 H7 x u _ J7' r7 (step x H7 y7)
      rw [eP, eW, eE, eX] at a1
      refine wpAny_mono a1 (fun _ s8 ⟨σ8, H8, J8, q8⟩ => ?_) fun _ _ z => z
      have a2 := bt _ s8 σ8 H8 _ J8 q8
      rw [eP, eW, eE, eX] at a2
      refine wpAny_mono a2 (fun ok s9 ⟨H9, J9, q9⟩ => ?_) fun _ _ z => z
      have again : ∀ {σa : St} {Ha : Hp} {sa : Shared}, Inv Y ([] ++ pinsAt fp s7.heap) σa Ha sa → Nn σa Ha → ∃ m, m < n ∧ ∃ i σ' H', Inv Y [] σ' H' sa ∧ tn i sa.heap ∧ (∀ b ∈ fp, H' b = none) ∧ W i m σ' H' := fun {σa Ha sa} Ja na => by
        obtain ⟨m', hm, wa⟩ := hN σa Ha na
        refine ⟨m', hm, i + 1, σa, Ha, Ja.unpinned, T.keep _ _ _ st7 fun b hbf o e => (Ja.pin (b, o) (List.mem_append_right _ (List.mem_append_right _ (mem_pinsAt hbf e)))).1, fun b hbf => ?_, wa⟩
        obtain ⟨o, e, d⟩ := T.obj _ _ st7 b hbf
        exact (Ja.pin (b, o) (List.mem_append_right _ (List.mem_append_right _ (mem_pinsAt hbf e)))).2.1
      cases ok with
      | false =>
        rw [if_neg Bool.false_ne_true] at q9 ⊢
        exact again J9 q9
      | true =>
        rw [if_pos rfl] at q9 ⊢
        have a3 := be _ s9 σ8 H9 _ J9 q9
        rw [eP, eW, eE, eX] at a3
        refine wpAny_mono a3 (fun v s10 ⟨y, H10, J10, r10, ys, hys, hl, q10⟩ => ?_) fun _ _ z => z
        have a4 := mt_append (X := Y) _ s10 σ8 H10 (.ref D) [y] (.ref D) [v] (fun _ Hq => Nn σ8 Hq) J10 rfl (.cons r10 .nil) ⟨D, ys, y, rfl, rfl, hys, hl, q10⟩
        rw [eP, eW, eX] at a4
        refine wpAny_mono a4 (fun _ s11 ⟨_, H11, J11, _, q11⟩ => ?_) fun _ _ z => z
        exact again J11 q11
  exact codeAny_compStart_list loop (T.self _ 0 _ _ _ st4 loop)
theorem comp_coreN {elt tg iter : Expr} {ifs : List Expr} {scope : Scope} {pos pos' : Pos} {x : Str} {N : List Str} {nt : Nat} {fr : List Nat} {wi : TI} {g : TG} {tt : TT} {te : TE} {use : Option (Value → Sem Unit)} {Qv : Value → Shared → Prop} {Q : VK}
    (I : Inv X pins σ H s) (hcalm : X.calm = true) (S : CompScopeN X N nt fr scope x) (hi : PI X tg iter wi)
    (hb : ∀ pins' cl C c s3 H3 fp, let Y := cxN X pins' N scope x cl C c s3 H3 fp; PG Y tg g ∧ PIfs Y ifs tt ∧ PE Y elt te)
    (q : tComp nt fr wi g tt te σ H Q)
    (fin : ∀ D C s' H' m, Inv X pins σ H' s' → s'.heap.Ns C m → FpOk X pins H' C → Q (.ref D) H' → compPost (model X.prog X.w) X.A X.xe use Qv (.ref D) C (.ok .next) s')
    (hs : ∀ x, foldedSetIterable iter X.env x = pure x := by intro _; rfl) :
    wpAny (model X.prog X.w) X.A (comprehension (.ListComp elt [⟨tg, iter, ifs, 0⟩] scope pos) scope X.env pos' (newList []) false (eval iter X.env) use) Qv X.xe s := by
  have hfree : ∀ x ∈ scope.names, x.2 = NameKind.free → ∃ c, X.env.cells.lookup x.1 = some c := fun x hx e => I.ok.has x.1 (.inl (S.free x hx e))
  refine wpAny_comprehension_free rfl hs (closC_eq hfree) S.kind S.names (thn (hi pins s σ H _ I q) fun v s1 h1 => thn h1 fun itv s2 h2 => ?_)
  obtain ⟨it, fp, tn, J, H2, rfl, I2, T, st2, f2, q2⟩ := h2
  refine wpAny_newObj_type (wpAny_newFunctionEnvN S.cells S.push ?_)
  dsimp only
  have I3 : Inv X pins σ (upd H2 s2.heap.objs.size (.lst [])) { s2 with heap := s2.heap.push { cls := .type "list", data := .seq ([] : List Value).toArray } } := I2.lnew (its := []) (ys := []) (t' := s2.toks) .nil (by simp)
  obtain ⟨W, ⟨m0, w0⟩, turn⟩ := q2 s2.heap.objs.size I2.fresh
  have ofp : ∀ b ∈ fp, b < s2.heap.objs.size := fun b hb => by
    obtain ⟨o, e, _⟩ := T.obj _ _ st2 b hb
    exact Heap.lt_size e
  have f3 : ∀ b ∈ fp, FpOk X pins (upd H2 s2.heap.objs.size (.lst [])) b := fun b hb => by
    obtain ⟨f0, fr'⟩ := f2 b hb
    exact ⟨by rw [upd_ne (Nat.ne_of_lt (ofp b hb))]; exact f0, fr'⟩
  have hz : (s2.heap.push { cls := .type "list", data := .seq ([] : List Value).toArray }).objs.size = s2.heap.objs.size + 1 := Heap.size_push ..
  exact comp_core2N (D := s2.heap.objs.size) (tn := tn) (W := W) (m0 := m0) (tk := s2.toks) I3 hcalm S hb T (T.keep _ _ _ st2 fun b hbf o e => Heap.get?_push_of_some _ e) f3 w0 turn ((Heap.Ns.new _ (.type "dict")).keeps fun b o e => Heap.get?_push_of_some _ e)
    ⟨_, by rw [show (s2.heap.push { cls := .type "list", data := .seq ([] : List Value).toArray }).objs.size + 1 = ((s2.heap.push { cls := .type "list", data := .seq ([] : List Value).toArray }).push { cls := .type "dict", data := .dict #[] }).objs.size from (Heap.size_push ..).symm]; exact Heap.get?_push_size _ rfl, rfl⟩
    (fun b o e => Heap.get?_push_of_some _ (Heap.get?_push_of_some _ e)) fin
end
end L2
namespace L2
open PySem PySem.Spec PyProof.Rows
section
variable {X : Cx}
theorem ps_setCompN {i : Nat} {y : Str} {py spos : Pos} {elt tg iter : Expr} {ifs : List Expr} {scope : Scope} {pos : Pos} {x : Str} {N : List Str} {nt : Nat} {fr : List Nat} {wi : TI} {g : TG} {tt : TT} {te : TE}
    (hN : X.N.Nodup) (hj : X.N[i]? = some y) (hy : Loc X.env.scope y)
    (hcalm : X.calm = true) (S : CompScopeN X N nt fr scope x) (hi : PI X tg iter wi)
    (hb : ∀ pins' cl C c s3 H3 fp, let Y := cxN X pins' N scope x cl C c s3 H3 fp; PG Y tg g ∧ PIfs Y ifs tt ∧ PE Y elt te)
    (hsw : swapsWith (.ListComp elt [⟨tg, iter, ifs, 0⟩] scope pos) (some (.Name y py)) spos.line X.env = pure true := by rfl)
    (hs : ∀ x, foldedSetIterable iter X.env x = pure x := by intro _; rfl) (hf : X.fn y = true ∨ X.env.scope.names.lookup y = some .local := by first | exact .inl rfl | exact .inr rfl | assumption) :
    PS X (.Assign [.Name y py] (.ListComp elt [⟨tg, iter, ifs, 0⟩] scope pos) spos) (tAsg (tComp nt fr wi g tt te) (gName i)) := by
  intro pins s σ H D I q
  rw [exec_Assign_Name_used _ _ _ _ hsw]
  refine wpAny_bind (wpAny_standAt (wpAny_bind ?_))
  show wpAny _ _ (do let _ ← comprehension (.ListComp elt [⟨tg, iter, ifs, 0⟩] scope pos) scope X.env _ (newList []) false (eval iter X.env) (some (assign (.Name y py) X.env))) _ _ s
  refine wpAny_bind (wpAny_mono (comp_coreN (use := some (assign (.Name y py) X.env)) (Qv := fun _ s' => SP X pins D .next s') (Q := fun v H1 => gName i v σ H1 D.nx) I hcalm S hi hb q (fun D' C s' H' m J hn f q' => ?_) hs) (fun _ s' hq => wpAny_pure (wpAny_pure hq)) fun _ _ e => e)
  show wpAny _ _ (assign (.Name y py) X.env (.ref D')) _ _ _
  refine wpAny_assign_Name (store_ok2 J hN hj hy (v := .ref D') rfl (fun s'' J'' ⟨a, hsb, ha⟩ => ?_) hf)
  have hCa : C ≠ a := by
    rcases ha with ha | ha
    · rw [ha]; exact f.2.1
    · exact fun z => f.2.2.2.2.1 y a ha z.symm
  refine ⟨m, hn.sameBut hsb hCa, fun h' hs' => ⟨_, H', J''.turned (t' := s''.toks) (fun b o hb e => (hs'.2 b hb).trans e) f.1 f.2.1 f.2.2.2.1 f.2.2.2.2.1 f.2.2.2.2.2, q'⟩⟩
end
def relabelC (scope osc : Scope) : Scope := { scope with names := scope.names.map fun (n, k) => if (k == .free && osc.kind == .function && osc.names.lookup n == some .cell) then (n, .cell) else (n, k) }
theorem CompScope.ofR {X : Cx} {N : List Str} {nt : Nat} {fr : List Nat} {scope sc2 osc : Scope} {XN : List Str} (eN : X.N = XN) (eO : X.env.scope = relabelC sc2 osc) (k : scope.kind = .function) (c : ∀ y ∈ scope.names, y.2 ≠ .cell) (n : ∀ y ∈ scope.names, y.2 = .local → scope.names.lookup y.1 = some .local)
    (f : ∀ y ∈ scope.names, y.2 = .free → (relabelC sc2 osc).names.lookup y.1 = some .cell) (l : N.length = nt + fr.length) (t : tieOk XN N scope.names nt fr = true) : CompScope X N nt fr scope :=
  ⟨k, c, n, fun y hy e => by show X.env.scope.names.lookup y.1 = _; rw [eO]; exact f y hy e, l, by rw [eN]; exact t⟩
theorem CompScopeN.of {X : Cx} {N : List Str} {nt : Nat} {fr : List Nat} {scope osc : Scope} {XN : List Str} {x : Str} (eN : X.N = XN) (eO : X.env.scope = osc) (k : scope.kind = .function) (o : ∀ y ∈ scope.names, y.2 = .cell → y.1 = x) (lk : scope.names.lookup x = some .cell) (ce : ∀ n cl, cellsFrom n scope.names cl = (x, n) :: cl) (pu : ∀ h : Heap, pushCells h scope.names = h.push { cls := .type "cell", data := .cell none })
    (n : ∀ y ∈ scope.names, y.2 = .local → scope.names.lookup y.1 = some .local) (f : ∀ y ∈ scope.names, y.2 = .free → osc.names.lookup y.1 = some .cell) (l : N.length = nt + fr.length) (t : tieOk XN N scope.names nt fr = true) : CompScopeN X N nt fr scope x :=
  ⟨k, o, lk, ce, pu, n, fun y hy e => by show X.env.scope.names.lookup y.1 = _; rw [eO]; exact f y hy e, l, by rw [eN]; exact t⟩
end L2
namespace L2
open PySem PySem.Spec PyProof.Rows
section
variable {prog : Program} {w : World} {A : Around} {E : Value → Shared → Prop} {s : Shared}
end
end L2
namespace L2
open PySem PySem.Spec PyProof.Rows
end L2
namespace L2
open PySem PySem.Spec PyProof.Rows
end L2
namespace L2
open PySem PySem.Spec PyProof.Rows
section
variable {P : Program} {w : World} {H : Hp} {h : Heap} {a : Addr} {o : HO}
theorem ObjOk.there (x : ObjOk P w H h a o) : ∃ q, h.get? a = some q := by
  cases o with
  | lst xs => obtain ⟨_, _, _, _, e⟩ := x; exact ⟨_, e⟩
  | tup xs => obtain ⟨_, _, _, p⟩ := x; obtain ⟨o, e, _⟩ := p; exact ⟨_, e⟩
  | dK kvs => obtain ⟨_, _, _, _, o, _, _, e, _⟩ := x; exact ⟨_, e⟩
  | dT kvs => obtain ⟨_, _, _, _, o, _, _, e, _⟩ := x; exact ⟨_, e⟩
  | set S n => obtain ⟨o, _, _, _, e, _⟩ := x; exact ⟨_, e⟩
  | ins C dx fs => obtain ⟨_, _, _, e, _⟩ := x; exact ⟨_, e⟩
  | own y => obtain ⟨_, e⟩ := x; exact ⟨_, e⟩
  | xd fs => obtain ⟨_, ⟨_, _, _, e, _⟩, _⟩ := x; exact ⟨_, e⟩
  | rng lo hi => obtain ⟨_, _, _, e⟩ := x; exact ⟨_, e⟩
  | frz ob u => obtain ⟨e, _⟩ := x; exact ⟨_, e⟩
  | tbl ps => exact ⟨_, (show h.get? a = some _ from x)⟩
  | met f y => exact ⟨_, (show h.get? a = some _ from x)⟩
  | ext φ => obtain ⟨_, ⟨_, e⟩, _⟩ := x; exact ⟨_, e⟩
end
section
variable {P : Program} {w : World} {K : PySem.W.Frag} {mg : Str → Option Value} {base : Heap} {N : List Str} {qual : Str} {scope : Scope} {f : Addr} {cd : Value} {A : Around} {outer : List Env} {s : Shared} {H : Hp} {E : XK}
end
end L2
namespace PySem.W
open PySem PySem.Spec PySem.Calls PyProof.Rows Builtin Builtin.ObjectAttr Builtin.Getset_descriptor
section
variable {prog : Program} {w : World} {A : Around} {E : Value → Shared → Prop} {s : Shared} {K : Frag} {x D : Addr}
end
end PySem.W
namespace L2
open PySem PySem.Spec PyProof.Rows
section
variable {X : Cx} {e : Expr} {es : List Expr} {n m : Nat} {p q : St → Hp → Prop} {pos : Pos}
end
section
variable {P : Program} {w : World} {K : PySem.W.Frag} {mg : Str → Option Value} {base : Heap} {N : List Str} {qual : Str} {scope : Scope} {f : Addr} {cd : Value} {A : Around} {outer : List Env} {s₀ : Shared} {H₀ : Hp} {E : XK}
end
end L2
namespace L2
open PySem PySem.Spec PyProof.Rows
section
variable {X : Cx} {pins : List (Addr × Obj)} {σ : St} {H H' : Hp} {s s' : Shared} {B h' : Heap}
end
section
variable {X : Cx} {CX : CXT} {k : Nat} {f C : Addr} {fd : FuncData} {ps : List Str} {sp : Sp} {dvs : List V} {ds : List Value} {x m : Str} {p pos apos : Pos} {e o : Expr} {es : List Expr} {ta : TE} {t : TA}
end
end L2
namespace L2
open PySem PySem.Spec PyProof.Rows
def Ends.gone (D : Ends) (i : Nat) : Ends := { nx := fun σ H => D.nx (σ.set i none) H, rt := D.rt, bk := fun σ H => D.bk (σ.set i none) H, ct := fun σ H => D.ct (σ.set i none) H }
end L2
namespace L2
open PySem PySem.Spec PyProof.Rows
section
variable {P : Program} {w : World} {K : PySem.W.Frag} {mg : Str → Option Value} {base : Heap}
end
section
variable {P : Program} {w : World} {K : PySem.W.Frag} {mg : Str → Option Value} {base : Heap} {N : List Str} {qual : Str} {scope : Scope} {f : Addr} {cd : Value} {A : Around} {outer : List Env} {s₀ : Shared} {H₀ : Hp} {E : XK}
end
end L2
namespace L2
open PySem PySem.Spec PyProof.Rows
end L2
namespace L2
open PySem
section
variable {ta tb tc : TE} {σ : St} {H : Hp} {a b : Bool} {u v : V}
end
end L2
namespace RC
open PySem L2
inductive Part where
  | i (n : Int) | s (x : Str) | v (k : Str) (ns : List Int)
  deriving DecidableEq
abbrev Line := Str × List Part
def PartAt (H : Hp) (u : V) : Part → Prop
  | .i n => u = .int n
  | .s x => u = .str x
  | .v k ns => ∃ r, u = .ref r ∧ H r = some (.tup (.str k :: ns.map V.int))
def LineAt (H : Hp) (u : V) (l : Line) : Prop := ∃ r us, u = .ref r ∧ H r = some (.tup (.str l.1 :: us)) ∧ Paired (PartAt H) us l.2
abbrev LinesAt (H : Hp) : List V → List Line → Prop := Paired (LineAt H)
theorem Paired.imp {α β : Type} {F G : α → β → Prop} (h : ∀ a b, F a b → G a b) : ∀ {l : List α} {m : List β}, Paired F l m → Paired G l m
  | _, _, .nil => .nil
  | _, _, .cons a b => .cons (h _ _ a) (Paired.imp h b)
theorem Paired.app {α β : Type} {F : α → β → Prop} : ∀ {l l' : List α} {m m' : List β}, Paired F l m → Paired F l' m' → Paired F (l ++ l') (m ++ m')
  | _, _, _, _, .nil, h => h
  | _, _, _, _, .cons a b, h => .cons a (Paired.app b h)
theorem tsame_lst {H : Hp} {a : Addr} {xs : List V} {o : HO} (h : H a = some (.lst xs)) : TSame H (upd H a o) := fun b ys e => by
  rw [upd_ne (ne_of e h (by intro z; cases z))]
  exact e
def kindsOf (w : Str) : Option (List Str) :=
  if "read" = w then some ["own", "name"] else if "write" = w then some ["name", "value"] else if "set" = w then some ["own", "value", "sign", "value"] else if "skip" = w then some ["value", "test", "value", "count"]
  else if "take" = w then some ["lock"] else if "give" = w then some ["lock"] else if "fork" = w then some ["thread"] else if "wait" = w then some ["thread"] else none
def limOf (many names : Int) (kind : Str) : Option Int :=
  if "own" = kind then some 3 else if "name" = kind then some names else if "lock" = kind then some 3 else if "thread" = kind then some many else if "count" = kind then some 9 else none
def okVal (k : Str) : List Int → Bool
  | [n] => decide (k = "number") || (decide (k = "own") && decide (0 ≤ n ∧ n < 3))
  | _ => false
def okPart (many names : Int) (kind : Str) : Part → Bool
  | .v k ns => okVal k ns && decide (kind = "value")
  | .s x => if kind = "sign" then decide (x = "+") || decide (x = "-") else if kind = "test" then decide (x = "==") || decide (x = "<") else false
  | .i n => match limOf many names kind with
    | some b => decide (0 ≤ n ∧ n < b)
    | none => false
def okParts (many names : Int) : List Str → List Part → Bool
  | [], [] => true
  | k :: ks, p :: ps => okPart many names k p && okParts many names ks ps
  | _, _ => false
def okLine (many names : Int) (l : Line) : Bool := match kindsOf l.1 with
  | none => false
  | some ks => okParts many names ks l.2
theorem Paired.len {α β : Type} {F : α → β → Prop} : ∀ {l : List α} {m : List β}, Paired F l m → l.length = m.length
  | _, _, .nil => rfl
  | _, _, .cons _ b => by rw [List.length_cons, List.length_cons, Paired.len b]
end RC
namespace K
open PySem L2 RC
abbrev LsAt (H : Hp) (rs : List Addr) (cs : List (List Nat)) : Prop := Paired (fun (a : Addr) (ch : List Nat) => H a = some (.lst (ch.map vI))) rs cs
theorem LsAt.put {H : Hp} {D : Addr} {o : HO} : ∀ {rs : List Addr} {cs : List (List Nat)}, ¬ D ∈ rs → LsAt H rs cs → LsAt (upd H D o) rs cs
  | _, _, _, .nil => .nil
  | _, _, h, .cons p q => .cons (by rw [upd_ne (fun e => h (by rw [← e]; exact List.mem_cons_self ..))]; exact p) (LsAt.put (fun z => h (List.mem_cons_of_mem _ z)) q)
theorem LsAt.same {H H' : Hp} {rs : List Addr} {cs : List (List Nat)} (s : Same H H') (h : LsAt H rs cs) : LsAt H' rs cs := RC.Paired.imp (fun _ _ e => s _ _ e) h
theorem paired_snoc {α β : Type} {F : α → β → Prop} {a : α} : ∀ {l : List α} {m : List β}, Paired F (l ++ [a]) m → ∃ m' b, m = m' ++ [b] ∧ Paired F l m' ∧ F a b
  | [], _, .cons p .nil => ⟨[], _, rfl, .nil, p⟩
  | x :: l, _, .cons p q => by
    obtain ⟨m', b, e, h1, h2⟩ := paired_snoc (l := l) q
    exact ⟨_ :: m', b, by rw [e]; rfl, .cons p h1, h2⟩
theorem comp_new {K : PySem.W.Frag} {fr : List Nat} {tt : TT} {te : TE} {σ : St} {H1 : Hp} {Q : VK} {a : Addr} {ps : List Nat} (p : Nat → Bool) (g : Nat → List Nat) (hz : ps.length ≤ 1000) (ha : SqL K H1 a (ps.map vI))
    (ht : ∀ n ∈ ps, ∀ H', Same H1 H' → ∀ Qt : Bool → Hp → Prop, (∀ H'', Same H' H'' → Qt (p n) H'') → tt (some (vI n) :: frV fr σ) H' Qt)
    (he : ∀ n ∈ ps, p n = true → ∀ H', Same H1 H' → ∀ Qe : VK, (∀ q H'', H' q = none → Same H' H'' → H'' q = some (.lst ((g n).map vI)) → Qe (.ref q) H'') → te (some (vI n) :: frV fr σ) H' Qe)
    (fin : ∀ D rs H', H1 D = none → Same H1 H' → H' D = some (.lst (rs.map V.ref)) → LsAt H' rs ((ps.filter p).map g) → (∀ b ∈ rs, H1 b = none) → ¬ D ∈ rs → Q (.ref D) H') :
    CompG K 1 fr (gName 0) tt te σ H1 Q a := by
  refine comp_listG (xs := ps.map vI) (fun D i ys H' => Same H1 H' ∧ ∃ rs : List Addr, ys = rs.map V.ref ∧ LsAt H' rs (((ps.take i).filter p).map g) ∧ (∀ b ∈ rs, H1 b = none) ∧ ¬ D ∈ rs) (small1000 (by rw [List.length_map]; exact hz)) (fun D hD => ⟨same_new hD, [], rfl, .nil, fun b hb => (by cases hb), fun z => (by cases z)⟩) (fun D i ys H' hD ⟨s, _⟩ => s.seq ha)
    (fun D i x ys H' o N hD hx ho ⟨s, rs, ey, hP, hn, hd'⟩ hd hys kT kF => ?_) (fun D ys H' hD ⟨s, rs, ey, hP, hn, hd'⟩ e => fin D rs H' hD s (by rw [e, ey]) (by rw [List.length_map, List.take_length] at hP; exact hP) hn hd')
  obtain ⟨n, en, rfl⟩ : ∃ n, ps[i]? = some n ∧ x = vI n := by
    rw [List.getElem?_map] at hx
    obtain ⟨n, h1, h2⟩ := Option.map_eq_some_iff.mp hx
    exact ⟨n, h1, h2.symm⟩
  have hm := List.mem_of_getElem? en
  have htk : ps.take (i + 1) = ps.take i ++ [n] := take_snoc en
  match o, ho with
  | [o1], _ =>
    show tt (some (vI n) :: frV fr σ) H' _
    refine ht n hm H' s _ fun H4 s4 => ?_
    cases hp : p n with
    | false =>
      rw [if_neg (by decide)]
      refine kF [some (vI n)] H4 rfl (s4 _ _ hd) ⟨s.trans s4, rs, ey, ?_, hn, hd'⟩
      rw [htk, List.filter_append, show List.filter p [n] = [] by simp [hp], List.append_nil]
      exact LsAt.same s4 hP
    | true =>
      rw [if_pos rfl]
      refine he n hm hp H4 (s.trans s4) _ fun q H5 nq s5 e5 => ⟨ys, s5 _ _ (s4 _ _ hd), hys, ?_⟩
      have nqD : q ≠ D := fun z => by rw [z, s4 _ _ hd] at nq; cases nq
      have nq1 : H1 q = none := (s.trans s4).free nq
      refine kT [some (vI n)] (.ref q) H5 rfl ⟨fun b o e => by rw [upd_ne (ne_of_none e hD)]; exact (s.trans (s4.trans s5)) _ _ e, rs ++ [q], by rw [ey, List.map_append]; rfl, ?_, fun b hb => ?_, fun z => ?_⟩
      · rw [htk, List.filter_append, show List.filter p [n] = [n] by simp [hp], List.map_append]
        exact RC.Paired.app (LsAt.put hd' (LsAt.same (s4.trans s5) hP)) (.cons (by rw [upd_ne nqD]; exact e5) .nil)
      · rcases List.mem_append.mp hb with z | z
        · exact hn b z
        · rw [List.mem_singleton.mp z]; exact nq1
      · rcases List.mem_append.mp z with z | z
        · exact hd' z
        · exact nqD (List.mem_singleton.mp z).symm
abbrev lgA (ds : List Deed) (ch : List Nat) : List (List Nat) := RG.longer ds.length (tkA ds) (lkA ds) (thA ds) (hdA ds) ch
abbrev ChainA (ds : List Deed) (ch : List Nat) : Prop := RG.Chain ds.length (tkA ds) (lkA ds) (thA ds) (hdA ds) ch
abbrev RingA (ds : List Deed) (ch : List Nat) : Prop := RG.Ring ds.length (tkA ds) (lkA ds) (thA ds) (hdA ds) ch
def spLonger (CR : Addr) : Sp := fun vs H Q _ => ∃ (p r c : Addr) (m : Int) (xs : List V) (ds : List Deed) (ts : List Addr) (ch : List Nat) (H0 : Hp), vs = [.ref p, .ref r, .ref c] ∧ RowAt CR H p m xs ∧ Deeds H xs ds ∧ ds.length ≤ 60 ∧ HelT H0 H r ds ts ∧ ChAt H c ds.length ch ∧
  ∀ (l : Addr) (rs : List Addr) (H' : Hp), Same H H' → H l = none → H' l = some (.lst (rs.map V.ref)) → LsAt H' rs (lgA ds ch) → (∀ b ∈ rs, H b = none) → ¬ l ∈ rs → Q (.ref l) H'
theorem ndPCLR : (["place", "chain", "locks", "row"] : List Str).Nodup := by decide +kernel
theorem ndPl : (["place"] : List Str).Nodup := by decide +kernel
theorem takes_len {n : Nat} {tk : Nat → Bool} : (RG.takesL n tk).length ≤ n := by
  unfold RG.takesL
  have := List.length_filter_le tk (List.range n)
  rwa [List.length_range] at this
section
variable {P : Program} {w : World} {K : PySem.W.Frag} {mg : Str → Option Value} {base : Heap}
theorem scLonger : FnScope ["row", "locks", "chain"] ["row", "locks", "chain"] (defScope s_longer) := ⟨rfl, rfl, rfl, by decide +kernel, rfl, by decide +kernel, by decide +kernel⟩
theorem ok_longer {f CR fT fC : Addr} {fd fdT fdC : FuncData} (F : Fun K "longer" "longer" s_longer f fd)
    (GT : FnOk P w K mg base CX0 2 fT fdT ["row"] (spTakes CR)) (cT : Cal K mg "takes" fT fdT ["row"])
    (GC : FnOk P w K mg base CX0 2 fC fdC ["row", "locks", "chain", "place"] (spCan CR)) (cC : Cal K mg "can_follow" fC fdC ["row", "locks", "chain", "place"]) : FnOk P w K mg base CX0 3 f fd ["row", "locks", "chain"] (spLonger CR) := by
  refine F.ok scLonger (fun vs H Q E h => ?_) (fun cdv A outer s H vs Q E hr h => ?_)
  · obtain ⟨p, r, c, m, xs, ds, ts, ch, H0, rfl, _⟩ := h
    rfl
  · obtain ⟨p, r, c, m, xs, ds, ts, ch, H0, rfl, hR, hds, hlen, G, C, k⟩ := h
    have nd := scLonger.nd
    refine ⟨_, pss_one (ps_ret (pe_comp (N := ["place", "chain", "locks", "row"]) (nt := 1) (fr := [2, 1, 0]) (tt := tB (tCall (spCan CR) [] E0 (tCons (tVar 3) (tCons (tVar 2) (tCons (tVar 1) (tCons (tVar 0) tNil)))))) (te := tOp rCat (tVar 1) (tLst (tCons (tVar 0) tNil))) rfl
          (.of (XN := ["row", "locks", "chain"]) (osc := defScope s_longer) rfl rfl rfl (by decide +kernel) (by decide +kernel) (by decide +kernel) rfl (by decide +kernel)) (pi_list (pe_call GT hr rfl cT.mgf cT.kp cT.b .nil pass0 (pa_cons (pv 0) pa_nil)))
          (fun _ _ _ _ _ _ => ⟨pg_name (i := 0) ndPCLR rfl (Or.inl rfl), pif_one (pt_val (pe_call GC hr rfl cC.mgf cC.kp cC.b .nil pass0 (pa_cons (pv 3) (pa_cons (pv 2) (pa_cons (pv 1) (pa_cons (pv 0) pa_nil)))))), pe_op op_cat (pv 1) (pe_lst (pa_cons (pv 0) pa_nil))⟩))), ?_⟩
    dsimp only [tRet]
    rw [tComp_iff]
    refine ⟨_, rfl, p, m, xs, ds, rfl, hR, hds, hlen, fun tl H1 s1 ntl etl => ⟨tl, rfl, ⟨_, SqL.of etl⟩, comp_new (ps := RG.takesL ds.length (tkA ds)) (RG.canF (lkA ds) (thA ds) (hdA ds) ch) (fun q => ch ++ [q]) (by have := takes_len (n := ds.length) (tk := tkA ds); omega) (SqL.of etl) (fun n hn H' s' Qt qt => ?_) (fun n hn hp H' s' Qe qe => ?_) (fun D rs H' hD s' e hP hn hd => k D rs H' (s1.trans s') (s1.free hD) e hP (fun b hb => s1.free (hn b hb)) hd)⟩⟩
    · have sH := s1.trans s'
      exact ⟨_, rfl, _, rfl, _, rfl, _, rfl, p, r, c, m, xs, ds, ts, ch, n, H0, rfl, hR.same sH, hds.same sH, hlen, G.same sH, C.same sH, (RG.mem_takes.mp hn).1, fun H'' s'' => ⟨_, rfl, qt H'' s''⟩⟩
    · have sH := s1.trans s'
      refine ⟨_, rfl, _, rfl, (by show 1 ≤ sizeLine; decide), fun q1 nq1 => ?_⟩
      have u1 := same_new (o := .lst [vI n]) nq1
      refine ⟨c, q1, _, _, rfl, rfl, u1 _ _ (sH _ _ C.e), upd_same, ?_, fun q2 nq2 => ?_⟩
      · have h6 := C.l6
        rw [List.length_map]
        show _ + 1 ≤ sizeLine
        exact Nat.le_of_lt (small1000 (by omega))
      · refine qe q2 _ (u1.free nq2) (u1.trans (same_new nq2)) ?_
        rw [upd_same, List.map_append]
        rfl
end
end K
namespace K
open PySem L2 RC
theorem chain_nd {ds : List Deed} {ch : List Nat} (h : ChainA ds ch) : (ch.map (thA ds)).Nodup := by
  induction h with
  | one _ _ => exact List.nodup_cons.mpr ⟨by simp, List.nodup_nil⟩
  | @snoc c p _ _ _ hc ih =>
    unfold RG.canF at hc
    rw [Bool.and_eq_true, List.all_eq_true] at hc
    rw [List.map_append]
    refine List.nodup_append.mpr ⟨ih, by simp, fun a ha b hb e => ?_⟩
    obtain ⟨o, ho, rfl⟩ := List.mem_map.mp ha
    have hb' : b = thA ds p := by simpa using hb
    have := hc.2 o ho
    rw [Bool.and_eq_true, Bool.not_eq_true', decide_eq_false_iff_not] at this
    exact this.1 (by rw [e, hb'])
theorem dAt_get {ds : List Deed} {i : Nat} (h : i < ds.length) : ds[i]? = some (dAt ds i) := by
  unfold dAt
  rw [List.getD_eq_getElem?_getD, List.getElem?_eq_getElem h]
  rfl
theorem chain_len {mn : Nat} {ds : List Deed} {ch : List Nat} (fa : Fault (mn : Int) ds none) (h : ChainA ds ch) : ch.length ≤ mn := by
  have hn := chain_nd h
  have : (ch.map (thA ds)).length ≤ ((List.range mn).map fun i : Nat => (i : Int)).length := by
    refine List.Nodup.length_le_of_subset hn fun x hx => ?_
    obtain ⟨o, ho, rfl⟩ := List.mem_map.mp hx
    have hl := (RG.Chain.mem h o ho).1
    have f := fa o _ (dAt_get hl)
    unfold faultOf at f
    rw [Option.or_eq_none_iff] at f
    have f1 := f.1
    unfold form at f1
    split at f1
    · cases f1
    next z =>
    have z := Decidable.not_not.mp z
    refine List.mem_map.mpr ⟨(thA ds o).toNat, List.mem_range.mpr (by unfold thA; omega), ?_⟩
    unfold thA
    omega
  rw [List.length_map, List.length_map, List.length_range] at this
  exact this
def spRing (CR : Addr) : Sp := fun vs H Q _ => ∃ (p : Addr) (mn : Nat) (xs : List V) (ds : List Deed), vs = [.ref p] ∧ RowAt CR H p (mn : Int) xs ∧ Deeds H xs ds ∧ 1 ≤ mn ∧ mn ≤ 6 ∧ ds.length ≤ 60 ∧ Fault (mn : Int) ds none ∧
  ((∀ R, ¬ RingA ds R) → ∀ H', Same H H' → Q .non H') ∧ ∀ (R : List Nat) (c : Addr) (H' : Hp), RingA ds R → Same H H' → H c = none → H' c = some (.lst (R.map vI)) → Q (.ref c) H'
abbrev nRing : List Str := ["row", "locks", "chains", "chain"]
theorem if_pos_of {c : Prop} [Decidable c] {a b : Prop} (h : c) (ha : a) : if c then a else b := by rw [if_pos h]; exact ha
section
variable {P : Program} {w : World} {K : PySem.W.Frag} {mg : Str → Option Value} {base : Heap}
theorem scRing : FnScope nRing ["row"] (defScope s_ring) := ⟨rfl, rfl, rfl, by decide +kernel, rfl, by decide +kernel, by decide +kernel⟩
theorem ok_ring {f CR fH fT fC fL : Addr} {fd fdH fdT fdC fdL : FuncData} (F : Fun K "ring" "ring" s_ring f fd)
    (GH : FnOk P w K mg base CX0 2 fH fdH ["row"] (spHeld CR)) (cH : Cal K mg "held" fH fdH ["row"])
    (GT : FnOk P w K mg base CX0 2 fT fdT ["row"] (spTakes CR)) (cT : Cal K mg "takes" fT fdT ["row"])
    (GC : FnOk P w K mg base CX0 2 fC fdC ["row", "locks", "chain"] (spCloses CR)) (cC : Cal K mg "closes" fC fdC ["row", "locks", "chain"])
    (GL : FnOk P w K mg base CX0 3 fL fdL ["row", "locks", "chain"] (spLonger CR)) (cL : Cal K mg "longer" fL fdL ["row", "locks", "chain"]) : FnOk P w K mg base CX0 4 f fd ["row"] (spRing CR) := by
  refine F.ok scRing (fun vs H Q E h => ?_) (fun cdv A outer s H vs Q E hr h => ?_)
  · obtain ⟨p, mn, xs, ds, rfl, _⟩ := h
    rfl
  · obtain ⟨p, mn, xs, ds, rfl, hR, hds, m1, m6, hlen, fa, k0, k1⟩ := h
    have nd := scRing.nd
    have hr2 : Room 2 _ := hr.mono (by decide)
    refine ⟨_, pss_cons (ps_set (i := 1) nd rfl (Or.inl rfl) (pe_call GH hr2 rfl cH.mgf cH.kp cH.b .nil pass0 (pa_cons (pv 0) pa_nil)))
      (pss_cons (ps_setComp (i := 2) (N := ["place"]) (nt := 1) (fr := []) (te := tLst (tCons (tVar 0) tNil)) nd rfl (Or.inl rfl) rfl
          (.of (XN := nRing) (osc := defScope s_ring) rfl rfl rfl (by decide +kernel) (by decide +kernel) (by decide +kernel) rfl (by decide +kernel)) (pi_list (pe_call GT hr2 rfl cT.mgf cT.kp cT.b .nil pass0 (pa_cons (pv 0) pa_nil)))
          (fun _ _ _ _ _ _ => ⟨pg_name (i := 0) ndPl rfl (Or.inl rfl), pif_nil, pe_lst (pa_cons (pv 0) pa_nil)⟩))
      (pss_cons (ps_while PassesOwn.never (pt_truth (pv 2) (fun _ => rfl))
        (pss_cons (ps_set (i := 3) nd rfl (Or.inl rfl) (pe_bm0 PySem.F.plainAttrs_list PySem.F.slot_list_pop PySem.F.type_list_pop mt_pop (pv 2)))
        (pss_cons (ps_if (pt_val (pe_call GC hr2 rfl cC.mgf cC.kp cC.b .nil pass0 (pa_cons (pv 0) (pa_cons (pv 1) (pa_cons (pv 3) pa_nil))))) (pss_one (ps_ret (pv 3))) pss_nil)
        (pss_one (ps_expr (pe_bm PySem.F.plainAttrs_list PySem.F.slot_list_extend PySem.F.type_list_extend mt_extend (pv 2) (pa_cons (pe_call GL hr rfl cL.mgf cL.kp cL.b .nil pass0 (pa_cons (pv 0) (pa_cons (pv 1) (pa_cons (pv 3) pa_nil)))) pa_nil)))))))
      (pss_one (ps_ret pe_non)))), ?_⟩
    refine ⟨_, rfl, p, mn, xs, ds, rfl, hR, hds, m1, m6, hlen, fa, fun r ts H1 s1 nr G => ?_⟩
    dsimp only [gName]
    rw [setComp_iff]
    have hR1 := hR.same s1
    have hds1 := hds.same s1
    refine ⟨_, rfl, p, (mn : Int), xs, ds, rfl, hR1, hds1, hlen, fun tl H2 s2 ntl etl => ⟨tl, rfl, ⟨_, SqL.of etl⟩, comp_new (ps := RG.takesL ds.length (tkA ds)) (fun _ => true) (fun q => [q]) (by have := takes_len (n := ds.length) (tk := tkA ds); omega) (SqL.of etl) (fun n hn H' s' Qt qt => qt H' (Same.refl _)) (fun n hn _ H' s' Qe qe => ⟨_, rfl, (by show 1 ≤ sizeLine; decide), fun q nq => qe q _ nq (same_new nq) upd_same⟩) (fun cs rs0 H3 hcs s3 ecs hP0 hn0 hd0 => ?_)⟩⟩
    rw [List.filter_eq_self.mpr (fun _ _ => rfl)] at hP0
    have G2 := G.same s2
    have hR2 := hR1.same s2
    have hds2 := hds1.same s2
    have s02 := s1.trans s2
    clear etl ntl
    refine ⟨fun m σ HC => ∃ (rs : List Addr) (S : List (List Nat)) (v3 : Option V), σ = [some (.ref p), some (.ref r), some (.ref cs), v3] ∧ Same H2 HC ∧ HC cs = some (.lst (rs.map V.ref)) ∧ LsAt HC rs S ∧ ¬ cs ∈ rs ∧ (∀ b ∈ rs, H2 b = none) ∧ (∀ ch ∈ S, ChainA ds ch) ∧ RG.Srch ds.length (tkA ds) (lkA ds) (thA ds) (hdA ds) S ∧ RG.Stk S ∧ m = RG.mu S,
      ⟨_, rs0, _, none, rfl, s3, ecs, hP0, hd0, hn0, fun ch hch => ?_, RG.srch0, RG.stk0 hlen, rfl⟩, ?_⟩
    · obtain ⟨q, hq, rfl⟩ := List.mem_map.mp hch
      obtain ⟨a, b⟩ := RG.mem_takes.mp hq
      exact .one a b
    rintro m σ HC ⟨rs, S, v3, rfl, sC, eC, hP, hnc, hnn, hch, hsr, hst, rfl⟩
    refine ⟨_, rfl, _, .inl ⟨_, SqL.of eC, rfl⟩, ?_⟩
    rcases List.eq_nil_or_concat rs with e | ⟨rs', a, e⟩
    · subst e
      cases hP
      refine iteF ?_
      exact k0 (RG.srch_end hsr) HC (s02.trans sC)
    rw [List.concat_eq_append] at e
    subst e
    obtain ⟨S', ch, rfl, hP', ea⟩ := paired_snoc hP
    have hcc := hch ch (List.mem_append_right _ (List.mem_singleton.mpr rfl))
    have hl6 := chain_len fa hcc
    have hpos := RG.Chain.pos hcc
    have hne : ch ≠ [] := fun z => by rw [z] at hpos; exact absurd hpos (by decide)
    refine if_pos_of (by cases rs' <;> rfl) ⟨fun σ' H' => ∃ m', m' < RG.mu (S' ++ [ch]) ∧ ∃ (rs : List Addr) (S : List (List Nat)) (v3 : Option V), σ' = [some (.ref p), some (.ref r), some (.ref cs), v3] ∧ Same H2 H' ∧ H' cs = some (.lst (rs.map V.ref)) ∧ LsAt H' rs S ∧ ¬ cs ∈ rs ∧ (∀ b ∈ rs, H2 b = none) ∧ (∀ ch ∈ S, ChainA ds ch) ∧ RG.Srch ds.length (tkA ds) (lkA ds) (thA ds) (hdA ds) S ∧ RG.Stk S ∧ m' = RG.mu S, fun σ' H' h => h, ?_⟩
    refine ⟨_, rfl, .inl ⟨rfl, _, SqL.of eC⟩, cs, _, .ref a, rfl, rfl, eC, ?_, ?_⟩
    · rw [List.length_map, List.length_append, List.length_singleton, Nat.add_sub_cancel, List.map_append, List.getElem?_append_right (by rw [List.length_map]; exact Nat.le_refl _), List.length_map, Nat.sub_self]
      rfl
    dsimp only [gName]
    rw [List.map_append, show List.dropLast (rs'.map V.ref ++ [a].map V.ref) = rs'.map V.ref from List.dropLast_concat]
    have hnc' : ¬ cs ∈ rs' := fun z => hnc (List.mem_append_left _ z)
    have nac : a ≠ cs := fun z => hnc (List.mem_append_right _ (by rw [z]; exact List.mem_singleton.mpr rfl))
    have sD : Same H2 (upd HC cs (.lst (rs'.map V.ref))) := sC.put2 hcs
    have eD : upd HC cs (.lst (rs'.map V.ref)) cs = some (.lst (rs'.map V.ref)) := upd_same
    have hPD : LsAt (upd HC cs (.lst (rs'.map V.ref))) rs' S' := LsAt.put hnc' hP'
    have eaD : upd HC cs (.lst (rs'.map V.ref)) a = some (.lst (ch.map vI)) := by rw [upd_ne nac]; exact ea
    generalize upd HC cs (.lst (rs'.map V.ref)) = HD at sD eD hPD eaD
    have CD : ChAt HD a ds.length ch := ⟨eaD, hne, fun i hi => (RG.Chain.mem hcc i hi).1, by omega⟩
    refine PuT.ifs (c := RG.closes (lkA ds) (hdA ds) ch = true) (fun Qt q => ⟨_, rfl, _, rfl, _, rfl, p, r, a, (mn : Int), xs, ds, ts, ch, H, rfl, hR2.same sD, hds2.same sD, hlen, G2.same sD, CD, _, rfl, by
        have : decide (RG.closes (lkA ds) (hdA ds) ch = true) = RG.closes (lkA ds) (hdA ds) ch := Bool.decide_eq_true
        rw [← this]
        exact q⟩) (fun z => ?_) (fun z => ?_)
    · exact ⟨_, rfl, k1 ch a HD ⟨hcc, z⟩ (s02.trans sD) (s02.free (hnn a (List.mem_append_right _ (List.mem_singleton.mpr rfl)))) eaD⟩
    have z : RG.closes (lkA ds) (hdA ds) ch = false := by simpa using z
    refine ⟨_, rfl, .inl ⟨rfl, _, SqL.of eD⟩, _, rfl, _, rfl, _, rfl, p, r, a, (mn : Int), xs, ds, ts, ch, H, rfl, hR2.same sD, hds2.same sD, hlen, G2.same sD, CD, fun l2 rs2 HE sE nl2 el2 hP2 hn2 hl2 => ⟨cs, l2, _, _, rfl, rfl, sE _ _ eD, el2, ?_, ?_⟩⟩
    · have h1 := RG.stk_len hst (fun c hc => Nat.le_trans (chain_len fa (hch c hc)) m6)
      have h2 := RG.longer_cnt (n := ds.length) (tk := tkA ds) (lk := lkA ds) (th := thA ds) (hd := hdA ds) (c := ch)
      have h3 := RC.Paired.len hPD
      have h4 : rs2.length = (RG.longer ds.length (tkA ds) (lkA ds) (thA ds) (hdA ds) ch).length := RC.Paired.len hP2
      rw [List.length_append, List.length_singleton] at h1
      rw [List.length_map, List.length_map]
      exact Nat.le_of_lt (small1000 (by omega))
    have nc2 : ¬ cs ∈ rs2 := fun z => by rw [hn2 cs z] at eD; cases eD
    refine ⟨_, RG.mu_step (S := S') (c := ch) (n := ds.length) (tk := tkA ds) (lk := lkA ds) (th := thA ds) (hd := hdA ds) hlen (Nat.le_trans hl6 m6), rs' ++ rs2, _, _, rfl, (sD.trans sE).put2 hcs, by rw [upd_same, List.map_append], ?_, fun z => ?_, fun b hb => ?_, fun c hc => ?_, RG.srch_step hsr z, RG.stk_step hlen hst hpos, rfl⟩
    · exact RC.Paired.app (LsAt.put hnc' (LsAt.same sE hPD)) (LsAt.put nc2 hP2)
    · rcases List.mem_append.mp z with q | q
      · exact hnc' q
      · exact nc2 q
    · rcases List.mem_append.mp hb with q | q
      · exact hnn b (List.mem_append_left _ q)
      · exact sD.free (hn2 b q)
    · rcases List.mem_append.mp hc with q | q
      · exact hch c (List.mem_append_left _ q)
      · exact RG.Chain.longer hcc q
end
end K
namespace L2
open PySem RC
end L2
namespace L2
open PySem RC
end L2
namespace K
open PySem L2 RC
theorem pus_eqNil {K : PySem.W.Frag} {σ : St} {H : Hp} {k : Nat} {a : Addr} {ns : List Int} (e : σ[k]? = some (some (.ref a))) (h : SqL K H a (ns.map V.int)) : PuS (tTest (tOp (rEqD K false) (tVar k) (tLst tNil))) σ H (decide (ns = [])) := fun Qt q =>
  ⟨_, e, Nat.zero_le _, fun p hp => ⟨_, _, .lst ((same_new hp).seq h) (datas_ints ns), .lst (SqL.of upd_same) (datas_ints []), shaped_ints ns, shaped_ints [], _, rfl, by
    have z : (if false = true then !PyData.eqv (.list (ns.map PyData.int)) (.list (([] : List Int).map PyData.int)) else PyData.eqv (.list (ns.map PyData.int)) (.list (([] : List Int).map PyData.int))) = decide (ns = []) := by
      rw [if_neg (by decide), List.map_nil, eqv_nil]
      cases ns with
      | nil => rfl
      | cons n r => rfl
    rw [z]
    exact q _ (same_new hp)⟩⟩
abbrev chI (ch : List Nat) : List Int := ch.map fun i : Nat => (i : Int)
theorem chI_map (ch : List Nat) : ch.map vI = (chI ch).map V.int := by rw [List.map_map]; rfl
theorem hu64Y {A : Around} {k : Nat} (hr : Room k A) : A.units + 64 < cLine := by have := hr.un; omega
end K
namespace K
open PySem L2 RC
def spWhole : Sp := fun vs H Q _ => ∃ i : Int, vs = [.int i] ∧ Q (.bl true) H
section
variable {P : Program} {w : World} {K : PySem.W.Frag} {mg : Str → Option Value} {base : Heap}
theorem scWhole : FnScope ["_law_found"] ["_law_found"] (defScope sWhole) := ⟨rfl, rfl, rfl, by decide +kernel, rfl, by decide +kernel, by decide +kernel⟩
theorem ok_whole {f C aW aT : Addr} {fd : FuncData} (F : Fun K "_law_whole" "_law_whole" sWhole f fd) (T : Txt K mg C aW aT) : FnOk P w K mg base CX0 1 f fd ["_law_found"] spWhole := by
  refine F.ok scWhole (fun vs H Q E h => ?_) (fun cdv A outer s H vs Q E hr h => ?_)
  · obtain ⟨i, rfl, _⟩ := h
    rfl
  · obtain ⟨i, rfl, q⟩ := h
    refine ⟨_, pss_one (ps_ret (pe_and (pe_callB call_isi (by rfl) T.isi bIsi (pa_cons (pv 0) (pa_cons (pe_bltn rfl T.int bInt (v := .ty "int") rfl) pa_nil)))
      (pe_one (pe_not (pe_callB call_isi (by rfl) T.isi bIsi (pa_cons (pv 0) (pa_cons (pe_bltn rfl T.bool bBool (v := .ty "bool") rfl) pa_nil))))))), ?_⟩
    refine ⟨_, rfl, .int i, "int", _, true, rfl, .int i, rfl, true, rfl, iteT ?_⟩
    exact ⟨_, rfl, .int i, "bool", _, false, rfl, .int i, rfl, false, rfl, q⟩
end
end K
namespace K
open PySem L2 RC
theorem getD_app1 {c : List Nat} {p k : Nat} (h : k < c.length) : (c ++ [p]).getD k 0 = c.getD k 0 := by
  rw [List.getD_eq_getElem?_getD, List.getD_eq_getElem?_getD, List.getElem?_append_left h]
theorem getD_app2 {c : List Nat} {p : Nat} : (c ++ [p]).getD c.length 0 = p := by
  rw [List.getD_eq_getElem?_getD, List.getElem?_append_right (Nat.le_refl _), Nat.sub_self]
  rfl
theorem getD_mem' {c : List Nat} {k : Nat} (h : k < c.length) : c.getD k 0 ∈ c := by
  rw [List.getD_eq_getElem?_getD, List.getElem?_eq_getElem h]
  exact List.getElem_mem h
theorem last_getD {c : List Nat} (h : c ≠ []) : c.getLastD 0 = c.getD (c.length - 1) 0 := by
  rw [List.getLastD_eq_getLast?, List.getLast?_eq_getElem?, List.getD_eq_getElem?_getD]
theorem chain_next {ds : List Deed} {c : List Nat} (h : ChainA ds c) : ∀ k, k + 1 < c.length → lkA ds (c.getD k 0) ∈ hdA ds (c.getD (k + 1) 0) := by
  induction h with
  | one _ _ => intro k hk; simp at hk
  | @snoc c p hc hp ht hcan ih =>
    intro k hk
    rw [List.length_append, List.length_singleton] at hk
    have hpos := RG.Chain.pos hc
    by_cases e : k + 1 < c.length
    · rw [getD_app1 (k := k) (by omega), getD_app1 (k := k + 1) e]
      exact ih k e
    · have ek : k + 1 = c.length := by omega
      rw [getD_app1 (k := k) (by omega), ek, getD_app2]
      unfold RG.canF at hcan
      rw [Bool.and_eq_true] at hcan
      have := of_decide_eq_true hcan.1
      rw [last_getD (fun z => by rw [z] at hpos; exact absurd hpos (by decide)), show c.length - 1 = k by omega] at this
      exact this
theorem chain_pair {ds : List Deed} {c : List Nat} (h : ChainA ds c) : ∀ j k, j < k → k < c.length → thA ds (c.getD j 0) ≠ thA ds (c.getD k 0) ∧ RG.com (hdA ds (c.getD j 0)) (hdA ds (c.getD k 0)) = [] := by
  induction h with
  | one _ _ => intro j k hj hk; simp at hk; omega
  | @snoc c p hc hp ht hcan ih =>
    intro j k hj hk
    rw [List.length_append, List.length_singleton] at hk
    by_cases e : k < c.length
    · rw [getD_app1 (k := j) (by omega), getD_app1 (k := k) e]
      exact ih j k hj e
    · have ek : k = c.length := by omega
      rw [getD_app1 (k := j) (by omega), ek, getD_app2]
      unfold RG.canF at hcan
      rw [Bool.and_eq_true, List.all_eq_true] at hcan
      have := hcan.2 (c.getD j 0) (getD_mem' (by omega))
      rw [Bool.and_eq_true, Bool.not_eq_true', decide_eq_false_iff_not, List.isEmpty_iff] at this
      exact this
theorem take_free {m : Int} {ds : List Deed} {p : Nat} (fa : Fault m ds none) (hp : p < ds.length) (ht : tkA ds p = true) : ¬ lkA ds p ∈ hdA ds p := by
  intro hm
  have f := fa p _ (dAt_get hp)
  have hw := wo_take (faultOf_wo f) (of_decide_eq_true ht)
  have h1 : lkA ds p ∈ holds (ds.take p) (dAt ds p).1 := by
    have : lkA ds p ∈ srtI (holds (ds.take p) (dAt ds p).1) := hm
    exact (srtI_perm _).mem_iff.mp this
  have h2 := ((holdOk (fa.take p)).mem _ _).mp h1
  unfold lkA at h2
  rw [hw] at h2
  cases h2
theorem ring_two {m : Int} {ds : List Deed} {R : List Nat} (fa : Fault m ds none) (h : RingA ds R) : 2 ≤ R.length := by
  have hpos := RG.Chain.pos h.1
  rcases Nat.lt_or_ge R.length 2 with q | q
  · match R, h, hpos, q with
    | [p], h, _, _ =>
      obtain ⟨hp, ht⟩ := RG.Chain.mem h.1 p (List.mem_singleton.mpr rfl)
      exact absurd (of_decide_eq_true (h.2 : decide (lkA ds p ∈ hdA ds p) = true)) (take_free fa hp ht)
  · exact q
theorem ring_next {ds : List Deed} {R : List Nat} (h : RingA ds R) (k : Nat) (hk : k < R.length) : lkA ds (R.getD k 0) ∈ hdA ds (R.getD ((k + 1) % R.length) 0) := by
  have hpos := RG.Chain.pos h.1
  have hne : R ≠ [] := fun z => by rw [z] at hpos; exact absurd hpos (by decide)
  by_cases e : k + 1 < R.length
  · rw [Nat.mod_eq_of_lt e]
    exact chain_next h.1 k e
  · have ek : k + 1 = R.length := by omega
    rw [ek, Nat.mod_self]
    have := of_decide_eq_true (h.2 : decide (lkA ds (R.getLastD 0) ∈ hdA ds (R.headD 0)) = true)
    rw [last_getD hne, show R.length - 1 = k by omega] at this
    have e0 : R.headD 0 = R.getD 0 0 := by cases R with
      | nil => rfl
      | cons a l => rfl
    rw [e0] at this
    exact this
end K
namespace K
open PySem L2 RC
def spRinged (K : PySem.W.Frag) : Sp := fun vs H Q _ => ∃ (c l r : Addr) (mn : Nat) (xs : List V) (ds : List Deed) (ts : List Addr) (R : List Nat) (H0 : Hp), vs = [.ref c, .ref l, .ref r] ∧ H c = some (.lst (R.map vI)) ∧ SqL K H l xs ∧ Deeds H xs ds ∧ ds.length ≤ 60 ∧ mn ≤ 6 ∧ Fault (mn : Int) ds none ∧ HelT H0 H r ds ts ∧ RingA ds R ∧
  ∀ H', Same H H' → Q (.bl true) H'
abbrev nRinged : List Str := ["_law_found", "_law_deeds_here", "_law_locks_here", "_law_k", "_law_place", "_law_j"]
theorem ndLLP : (["_law_lock", "_law_locks_here", "_law_place"] : List Str).Nodup := by decide +kernel
section
variable {P : Program} {w : World} {K : PySem.W.Frag} {mg : Str → Option Value} {base : Heap}
theorem scRinged : FnScope nRinged ["_law_found", "_law_deeds_here", "_law_locks_here"] (defScope s__law_ringed) := ⟨rfl, rfl, rfl, by decide +kernel, rfl, by decide +kernel, by decide +kernel⟩
theorem ok_ringed {f C aW aT fW : Addr} {fd fdW : FuncData} (F : Fun K "_law_ringed" "_law_ringed" s__law_ringed f fd) (T : Txt K mg C aW aT)
    (GW : FnOk P w K mg base CX0 1 fW fdW ["_law_found"] spWhole) (cW : Cal K mg "_law_whole" fW fdW ["_law_found"]) : FnOk P w K mg base CX0 2 f fd ["_law_found", "_law_deeds_here", "_law_locks_here"] (spRinged K) := by
  refine F.ok scRinged (fun vs H Q E h => ?_) (fun cdv A outer s H vs Q E hr h => ?_)
  · obtain ⟨c, l, r, mn, xs, ds, ts, R, H0, rfl, _⟩ := h
    rfl
  · obtain ⟨c, l, r, mn, xs, ds, ts, R, H0, rfl, ec, hl, hds, hlen, m6, fa, G, hR, kq⟩ := h
    have nd := scRinged.nd
    have hu := hu64Y hr
    refine ⟨_, pss_cons (ps_if (PW.pt (pw_or (pt_not (pt_val (pe_callB call_isi (by rfl) T.isi bIsi (pa_cons (pv 0) (pa_cons (pe_bltn rfl T.lst bList (v := .ty "list") rfl) pa_nil))))) (pw_or1 (pt_cmpR op_lt (pe_callB call_len_seq (by rfl) T.len PySem.boot_len (pa_cons (pv 0) pa_nil)) pe_int (nomark _))))) (pss_one (ps_ret pe_bl)) pss_nil)
      (pss_cons (ps_for PassesOwn.never rfl (pi_range1 rfl T.rng (pa_cons (pe_callB call_len_seq (by rfl) T.len PySem.boot_len (pa_cons (pv 0) pa_nil)) pa_nil)) (pg_name (i := 3) nd rfl (Or.inl rfl))
        (pss_cons (ps_set (i := 4) nd rfl (Or.inr rfl) (pe_ix ix_list (pv 0) (pv 3) (fun _ _ => rfl)))
        (pss_cons (ps_if (PW.pt (pw_or (pt_not (pt_val (pe_call GW hr rfl cW.mgf cW.kp cW.b .nil pass0 (pa_cons (pv 4) pa_nil)))) (pw_or (pt_not (pt_chain op_le op_lt pe_int (pv 4) (pe_callB call_len_seq (by rfl) T.len PySem.boot_len (pa_cons (pv 1) pa_nil)))) (pw_or1 (pt_cmpR op_ne (pe_ix ix_tup (pe_ix ix_list (pv 1) (pv 4) (fun _ _ => rfl)) pe_int (fun _ _ => rfl)) pe_str (nomark _)))))) (pss_one (ps_ret pe_bl)) pss_nil)
        (pss_cons (ps_if (pt_cmpR op_notIn_seq (pe_ix ix_tup (pe_ix ix_list (pv 1) (pv 4) (fun _ _ => rfl)) pe_int (fun _ _ => rfl)) (pe_ix ix_list (pv 2) (pe_ix ix_list (pv 0) (pe_op op_mod (pe_op op_add (pv 3) pe_int) (pe_callB call_len_seq (by rfl) T.len PySem.boot_len (pa_cons (pv 0) pa_nil))) (fun _ _ => rfl)) (fun _ _ => rfl)) (by with_unfolding_all rfl)) (pss_one (ps_ret pe_bl)) pss_nil)
        (pss_one (ps_for PassesOwn.never rfl (pi_range1 rfl T.rng (pa_cons (pv 3) pa_nil)) (pg_name (i := 5) nd rfl (Or.inl rfl))
          (pss_cons (ps_if (pt_cmpR op_eq (pe_ix ix_tup (pe_ix ix_list (pv 1) (pe_ix ix_list (pv 0) (pv 5) (fun _ _ => rfl)) (fun _ _ => rfl)) pe_int (fun _ _ => rfl)) (pe_ix ix_tup (pe_ix ix_list (pv 1) (pv 4) (fun _ _ => rfl)) pe_int (fun _ _ => rfl)) (nomark _)) (pss_one (ps_ret pe_bl)) pss_nil)
          (pss_one (ps_if (pt_cmpR (op_neD hu) (pe_comp (N := ["_law_lock", "_law_locks_here", "_law_place"]) (nt := 1) (fr := [2, 4]) (tt := tTest (tOp (rIn K false) (tVar 0) (tOp (rIxL K) (tVar 1) (tVar 2)))) (te := tVar 0) rfl
              (.of (XN := nRinged) (osc := defScope s__law_ringed) rfl rfl rfl (by decide +kernel) (by decide +kernel) (by decide +kernel) rfl (by decide +kernel)) (pi_list (pe_ix ix_list (pv 2) (pe_ix ix_list (pv 0) (pv 5) (fun _ _ => rfl)) (fun _ _ => rfl)))
              (fun _ _ _ _ _ _ => ⟨pg_name (i := 0) ndLLP rfl (Or.inl rfl), pif_one (pt_cmpR (r := rIn K false) op_in_seq (pv 0) (pe_ix ix_list (pv 1) (pv 2) (fun _ _ => rfl)) (by with_unfolding_all rfl)), pv 0⟩)) (pe_lst pa_nil) (nomark _)) (pss_one (ps_ret pe_bl)) pss_nil)))))))))
      (pss_one (ps_ret pe_bl))), ?_⟩
    have h2 := ring_two fa hR
    have hl6 := chain_len fa hR.1
    have hxl := hds.len
    have hlt : ∀ i, i < R.length → R.getD i 0 < ds.length := fun i hi => (RG.Chain.mem hR.1 _ (getD_mem' hi)).1
    have htk : ∀ i, i < R.length → tkA ds (R.getD i 0) = true := fun i hi => (RG.Chain.mem hR.1 _ (getD_mem' hi)).2
    have rget : ∀ i, i < R.length → (R.map vI)[i]? = some (vI (R.getD i 0)) := fun i hi => by rw [List.getElem?_map, List.getD_eq_getElem?_getD, List.getElem?_eq_getElem hi]; rfl
    have tlt : ∀ i, i < ds.length → i < ts.length := fun i hi => by rw [G.lt]; exact hi
    have tget : ∀ i (hi : i < ds.length), (ts.map V.ref)[i]? = some (.ref (ts[i]'(tlt i hi))) := fun i hi => by rw [List.getElem?_map, List.getElem?_eq_getElem (tlt i hi)]; rfl
    have thel : ∀ i (hi : i < ds.length), H (ts[i]'(tlt i hi)) = some (.lst ((heldAt ds i).map V.int)) := fun i hi => (G.vt i _ (List.getElem?_eq_getElem (tlt i hi))).1
    refine PuT.ifs (c := False) ((PuT.or (a := false) (b := false) (PuT.not (a := true) (fun Qt q => ⟨_, rfl, .ref c, "list", _, true, rfl, .lst ec, rfl, true, rfl, q⟩))
      (fun _ Qt q => ⟨_, rfl, c, _, rfl, .inl (SqL.of ec), _, _, rfl, rfl, _, rfl, by
        rw [List.length_map, decide_eq_false (by omega)]
        exact q⟩)).iff (by simp)) (fun z => z.elim) (fun _ => ?_)
    refine ⟨_, rfl, c, _, rfl, .inl (SqL.of ec), _, rfl, by rw [List.length_map]; omega, by rw [List.length_map]; omega, for_range (lo := 0) (n := (((R.map vI).length : Nat) : Int).toNat) (fun i σ HC => ∃ (v3 v4 v5 : Option V), σ = [some (.ref c), some (.ref l), some (.ref r), v3, v4, v5] ∧ Same H HC)
      ⟨none, none, none, rfl, Same.refl _⟩ ?_ (fun σ HC ⟨_, _, _, e, sC⟩ => by subst e; exact kq HC sC)⟩
    rintro i σ HC hi ⟨v3, v4, v5, rfl, sC⟩
    have hin : i < R.length := by simpa using hi
    have e0 : (0 : Int) + (i : Int) = (i : Int) := by omega
    rw [e0]
    dsimp only [gName]
    have ecC := sC _ _ ec
    have hlC := sC.seq hl
    have erC := sC _ _ G.er
    have hpl := hlt i hin
    refine ⟨_, rfl, _, rfl, c, _, _, _, rfl, rfl, SqL.of ecC, atI_nat (rget i hin), ?_⟩
    dsimp only [gName]
    obtain ⟨rp, exp, ep⟩ := (hds.same sC).ref hpl
    have ewd : (dAt ds (R.getD i 0)).2.1 = W.take := of_decide_eq_true (htk i hin)
    refine PuT.ifs (c := False) ((PuT.or (a := false) (b := false) (PuT.not (a := true) (fun Qt q => ⟨_, rfl, _, rfl, true, rfl, q⟩))
      (fun _ => PuT.or (a := false) (b := false) (PuT.not (a := true) (fun Qt q => ⟨_, rfl, _, _, rfl, rfl, _, rfl, ?ch⟩))
        (fun _ Qt q => ⟨_, rfl, _, rfl, l, _, _, .ref rp, rfl, rfl, hlC, atI_nat exp, rp, _, 1, .str (dAt ds (R.getD i 0)).2.1, rfl, rfl, SqT.of ep, rfl, rfl, _, rfl, by
          rw [ewd, show decide (V.str W.take = V.str W.take) = true from decide_eq_true rfl]
          exact q⟩))).iff (by simp)) (fun z => z.elim) (fun _ => ?_)
    case ch =>
      rw [decide_eq_true (by omega : (0 : Int) ≤ ((R.getD i 0 : Nat) : Int))]
      refine ⟨_, rfl, l, _, rfl, .inl hlC, _, _, rfl, rfl, _, rfl, ?_⟩
      rw [hxl, decide_eq_true (by omega : ((R.getD i 0 : Nat) : Int) < ((ds.length : Nat) : Int))]
      exact q
    have hmod : (i + 1) % R.length < R.length := Nat.mod_lt _ (by omega)
    have emod : (((i : Nat) : Int) + 1) % ((R.length : Nat) : Int) = (((i + 1) % R.length : Nat) : Int) := by rw [Int.natCast_emod]; rfl
    refine PuT.ifs (c := False) (fun Qt q => ⟨_, rfl, _, rfl, l, _, _, .ref rp, rfl, rfl, hlC, atI_nat exp, rp, _, 2, .int (lkA ds (R.getD i 0)), rfl, rfl, SqT.of ep, rfl,
      _, rfl, _, rfl, _, rfl, _, _, rfl, rfl, _, rfl, c, _, rfl, .inl (SqL.of ecC), _, _, rfl, rfl, (by rw [List.length_map]; omega), c, _, (((i + 1) % R.length : Nat) : Int), vI (R.getD ((i + 1) % R.length) 0), rfl, by rw [List.length_map]; show V.int _ = _; rw [emod], SqL.of ecC, atI_nat (rget _ hmod), r, _, _, .ref _, rfl, rfl, SqL.of erC, atI_nat (tget _ (hlt _ hmod)), _, _, rfl, .inl (SqL.of (sC _ _ (thel _ (hlt _ hmod)))), rfl, ints_flat _, _, rfl, by
        rw [if_pos rfl, inV_ints, decide_eq_true (ring_next hR i hin)]
        exact q⟩) (fun z => z.elim) (fun _ => ?_)
    refine ⟨_, rfl, _, rfl, by omega, by omega, for_range (lo := 0) (n := ((i : Nat) : Int).toNat) (fun j σ HD => ∃ (v5 : Option V), σ = [some (.ref c), some (.ref l), some (.ref r), some (.int (i : Int)), some (vI (R.getD i 0)), v5] ∧ Same H HD)
      ⟨_, rfl, sC⟩ ?_ (fun σ HD ⟨_, e, sD⟩ => ⟨_, _, _, e, sD⟩)⟩
    rintro j σ HD hj ⟨v5', rfl, sD⟩
    have hji : j < i := by simpa using hj
    have hjn : j < R.length := by omega
    have e1 : (0 : Int) + (j : Int) = (j : Int) := by omega
    rw [e1]
    dsimp only [gName]
    have ecD := sD _ _ ec
    have hlD := sD.seq hl
    have erD := sD _ _ G.er
    obtain ⟨rj, exj, ej⟩ := (hds.same sD).ref (hlt j hjn)
    obtain ⟨rp', exp', ep'⟩ := (hds.same sD).ref hpl
    obtain ⟨q1, q2⟩ := chain_pair hR.1 j i hji hin
    refine PuT.ifs (c := False) (fun Qt q => ⟨_, rfl, _, rfl, _, rfl, c, _, _, _, rfl, rfl, SqL.of ecD, atI_nat (rget j hjn), l, _, _, .ref rj, rfl, rfl, hlD, atI_nat exj, rj, _, 0, .int (thA ds (R.getD j 0)), rfl, rfl, SqT.of ej, rfl, _, rfl, _, rfl, l, _, _, .ref rp', rfl, rfl, hlD, atI_nat exp', rp', _, 0, .int (thA ds (R.getD i 0)), rfl, rfl, SqT.of ep', rfl, rfl, _, rfl, by
      rw [dec_int', decide_eq_false q1]
      exact q⟩) (fun z => z.elim) (fun _ => ?_)
    refine PuS.if1 (c := False) (fun Qt q => ?cm) (fun _ _ z => z.elim) (fun HE sE _ => ⟨_, rfl, sD.trans sE⟩)
    case cm =>
      dsimp only [tTest, tOp]
      rw [tComp_iff]
      refine ⟨_, rfl, _, rfl, _, rfl, c, _, _, _, rfl, rfl, SqL.of ecD, atI_nat (rget j hjn), r, _, _, .ref _, rfl, rfl, SqL.of erD, atI_nat (tget _ (hlt j hjn)), _, rfl, ⟨_, SqL.of (sD _ _ (thel _ (hlt j hjn)))⟩, comp_intsF (fun x => decide (x ∈ heldAt ds (R.getD i 0))) (small1000 (by have := heldAt_len (ds := ds) (k := R.getD j 0); omega)) (SqL.of (sD _ _ (thel _ (hlt j hjn)))) (fun x hx H' s' Qt qt => ⟨_, rfl, _, rfl, _, rfl, r, _, _, .ref _, rfl, rfl, SqL.of (s' _ _ erD), atI_nat (tget _ hpl), _, _, rfl, .inl (SqL.of ((sD.trans s') _ _ (thel _ hpl))), rfl, ints_flat _, _, rfl, ?_⟩) (fun D H' hD s' e => ?_)⟩
      · show Qt (inV _ _) H'
        rw [inV_ints]
        exact qt H' (Same.refl _)
      · refine ⟨Nat.zero_le _, fun p hp => ⟨_, _, .lst (SqL.of ((same_new hp) _ _ e)) (datas_ints _), .lst (SqL.of upd_same) (datas_ints []), shaped_ints _, shaped_ints [], _, rfl, ?_⟩⟩
        rw [if_pos rfl, List.map_nil, eqv_nil]
        have ec0 : ((heldAt ds (R.getD j 0)).filter fun x => decide (x ∈ heldAt ds (R.getD i 0))) = [] := q2
        rw [ec0]
        exact q _ (s'.trans (same_new hp))
end
end K
namespace PySem
open PySem.Spec PyProof.Rows
section
variable {prog : Program} {w : World} {A : Around} {E : Value → Shared → Prop} {s : Shared}
end
end PySem
namespace L2
open PySem PySem.Spec PyProof.Rows
end L2
namespace PySem
open PySem.Spec PyProof.Rows
namespace F
end F
section
variable {prog : Program} {w : World} {A : Around} {E : Value → Shared → Prop} {s : Shared}
end
end PySem
namespace L2
open PySem PySem.Spec PyProof.Rows
end L2
namespace L2
open PySem PySem.Spec PyProof.Rows
theorem ints_items : ∀ (ns : List Int) (its : List Value), its.length = ns.length → (∀ (j : Nat) (v : Value), its[j]? = some v → ∃ i t, ns[j]? = some i ∧ v = Value.int i t) → IntsAre its ns
  | [], [], _, _ => .nil
  | n :: ns, v :: its, hl, h => by
    obtain ⟨i, t, e1, e2⟩ := h 0 v rfl
    cases e1
    subst e2
    exact .cons _ t (ints_items ns its (by simpa using hl) fun j v e => h (j + 1) v e)
theorem kv_keys : ∀ {kvs : List (Key × V)} {vs : List (Key × Value)}, KV kvs vs → vs.map (·.1) = kvs.map (·.1)
  | _, _, .nil => rfl
  | _, _, .cons r t => by
    rw [List.map_cons, List.map_cons, kv_keys t, r.1]
theorem Inv.laid2 {X : Cx} {pins : List (Addr × Obj)} {σ : St} {H : Hp} {s : Shared} {h' : Heap} {a : Addr} {o : HO} {t' : Nat} (I : Inv X pins σ H s) (k : ∀ b u, s.heap.get? b = some u → h'.get? b = some u) (hp : ∀ b u, s.heap.get? b = some u → b ≠ a) (new : ObjOk X.prog X.w (upd H a o) h' a o) :
    H a = none ∧ Inv X pins σ (upd H a o) { s with heap := h', toks := t' } := by
  have hn : H a = none := by
    cases e : H a with
    | none => rfl
    | some u =>
      obtain ⟨q, e1⟩ := (I.hok a u e).there
      exact absurd rfl (hp a q e1)
  refine ⟨hn, I.un ⟨fun b u q _ _ _ => k b u q, fun b u q _ _ _ => ⟨u.slots, k b u q⟩, fun b u q n _ => by rw [upd_ne (hp b u q)]; exact n, fun b u q _ => ⟨u, k b u q⟩, fun b xs q => by rw [upd_ne (ne_of_none q hn)]; exact q, fun b u xs q => by rw [upd_ne (ne_of_none q hn)]; exact q,
    fun b ps q => ⟨#[], by rw [upd_ne (ne_of_none q hn), q]; simp⟩⟩ fun b u q => ?_⟩
  by_cases z : b = a
  · subst z
    rw [upd_same] at q
    cases q
    exact new
  · rw [upd_ne z] at q
    exact (I.hok b u q).stay (fun c v _ e => k c v e) (fun c e => by rw [upd_ne (ne_of_none e hn)]; exact e) fun c ys e => by rw [upd_ne (ne_of_none e hn)]; exact e
theorem call_sortedD {X : Cx} (hc : X.calm = true) : CallR X (.builtin "sorted") (fun xs H Q => ∃ (p : Addr) (kvs : List (Key × V)) (ns : List Int), xs = [.ref p] ∧ H p = some (.dK kvs) ∧ kvs.map (·.1) = ns.map Sum.inl ∧ ns.length < 64 ∧
    ∀ (l : Addr) (ns' : List Int), ns'.Perm ns → ns'.Pairwise (· ≤ ·) → H l = none → Q (.ref l) (upd H l (.lst (ns'.map V.int)))) := by
  intro pins s σ H xs us Q I r h
  obtain ⟨p, kvs, ns, rfl, hH, hk, h64, q⟩ := h
  obtain ⟨u, rfl, rx⟩ := vals1 r
  cases rx
  obtain ⟨hz, lo, vs, rel, hD⟩ := dk_of I.hok hH
  obtain ⟨ep, hat⟩ := hD.dictAt
  have lv : kvs.length = vs.length := Paired.length rel
  have ln : kvs.length = ns.length := by have := congrArg List.length hk; simpa using this
  refine Calls.call_function_entry kind_sorted plain_sorted entry_sorted (args_sorted1 _) ?_
  unfold Builtin.«sorted»
  refine wpAny_bind (m := checkCount "sorted" 1 1 _) (wpAny_pure ?_)
  refine wpAny_bind (PySem.W.kdu_collect (A := X.A.in1) (PySem.W.kdl_dict (knd := mixKind X.prog X.w) (kvs := vs) (ep := ep) lo) (I.ok.hd hc) hat (by omega) fun h' tk acc hkp hacc => ?_)
  have hl : acc.toList.length = ns.length := by rw [Array.length_toList, hacc.1]; omega
  have hI : IntsAre acc.toList ns := ints_items ns acc.toList hl fun j v e => by
    obtain ⟨k, x, e1, e2⟩ := hacc.2 j v (by rw [← Array.getElem?_toList]; exact e)
    have e3 : (vs.map (·.1))[j]? = some k := by rw [List.getElem?_map, e1]; rfl
    rw [kv_keys rel, hk, List.getElem?_map] at e3
    cases e4 : ns[j]? with
    | none => rw [e4] at e3; cases e3
    | some i =>
      rw [e4] at e3
      have ek : Sum.inl i = k := Option.some.inj e3
      rcases keyIs_shape (show keyIs k v = true from e2) with ⟨i', t, h1, h2⟩ | ⟨x', t, h1, _⟩
      · rw [← ek] at h1
        cases h1
        exact ⟨_, t, rfl, h2⟩
      · rw [← ek] at h1
        cases h1
  refine wpAny_bind (wpAny_newList ?_ (by rw [hl]; omega))
  have hoL : (h'.push (seqObj "list" acc.toList.toArray 0)).get? h'.objs.size = some (seqObj "list" acc.toList.toArray 0) := Heap.get?_push_size _ rfl
  refine wpAny_bind (wpAny_holding (wpAny_call_entry slot_list_sort ⟨_, hoL, rfl⟩ entry_list_sort (list_sort_tree hoL hI (by omega) fun out ns' a1 a2 a3 => ⟨_, rfl, ?_⟩) (args_list_sort _)))
  refine wpAny_pure ⟨_, rfl, ?_⟩
  obtain ⟨e, he⟩ := sortedHeap_at (out := out) hoL
  have hk' : ∀ b o, s.heap.get? b = some o → (sortedHeap (h'.push (seqObj "list" acc.toList.toArray 0)) h'.objs.size acc.toList out).get? b = some o := fun b o e => by
    have b1 := Heap.lt_size (hkp b o e)
    rw [sortedHeap_old (Nat.ne_of_lt b1) (by rw [Heap.size_push]; exact Nat.lt_succ_of_lt b1)]
    exact Heap.get?_push_of_some _ (hkp b o e)
  have sz : (ns'.map V.int).length ≤ sizeLine := by
    rw [List.length_map, a2.length_eq]
    have : (64 : Nat) ≤ sizeLine := by decide
    omega
  obtain ⟨hn, I2⟩ := I.laid2 (a := h'.objs.size) (o := .lst (ns'.map V.int)) (t' := tk) hk' (fun b u e => Nat.ne_of_lt (Heap.lt_size (hkp b u e))) ⟨sz, out.toList, e, vals_of_ints a1, he⟩
  exact ⟨.ref h'.objs.size, _, I2, rfl, q _ ns' a2 a3 hn⟩
end L2
namespace K
open PySem L2 RC
theorem hu64_of {A : Around} {k : Nat} (hr : Room k A) : A.units + 64 < cLine := by have := hr.un; omega
theorem tsame_put {H : Hp} {a : Addr} {ys : List V} {o : HO} (h : H a = some (.lst ys)) : TSame H (upd H a o) := fun b zs e => by
  rw [upd_ne (ne_of e h (by intro z; cases z))]
  exact e
theorem none_upd {H : Hp} {a p : Addr} {o : HO} (h : upd H a o p = none) : p ≠ a ∧ H p = none := by
  by_cases e : p = a
  · rw [e, upd_same] at h
    cases h
  · rw [upd_ne e] at h
    exact ⟨e, h⟩
structure HoAt (H : Hp) (h : Addr) (hold : Int → Option Int) (n : Nat) : Prop where
  ex : ∃ (kvs : List (Key × V)) (ns : List Int), H h = some (.dK kvs) ∧ kvs.map (·.1) = ns.map Sum.inl ∧ kvs.length ≤ n ∧ ns.Nodup ∧ ∀ x : Int, valV kvs (Sum.inl x) = (hold x).map V.int
  pos : ∀ x, hold x ≠ none → 0 ≤ x
theorem HoAt.same {H H' : Hp} {h : Addr} {hold : Int → Option Int} {n : Nat} (s : Same H H') (g : HoAt H h hold n) : HoAt H' h hold n := by
  obtain ⟨kvs, ns, e, r⟩ := g.ex
  exact ⟨⟨kvs, ns, s _ _ e, r⟩, g.pos⟩
theorem valV_mem {kvs : List (Key × V)} {ns : List Int} (e : kvs.map (·.1) = ns.map Sum.inl) (x : Int) : (valV kvs (Sum.inl x)).isSome = true ↔ x ∈ ns := by
  induction kvs generalizing ns with
  | nil =>
    cases ns with
    | nil => simp [valV]
    | cons a r => simp at e
  | cons kv r ih =>
    cases ns with
    | nil => simp at e
    | cons a ns =>
      rw [List.map_cons, List.map_cons] at e
      injection e with e1 e2
      have := ih e2
      obtain ⟨k, v⟩ := kv
      have e1 : k = Sum.inl a := e1
      subst e1
      unfold valV
      by_cases hx : x = a
      · subst hx
        simp
      · have hne : ¬ (Sum.inl a : Key) = Sum.inl x := fun z => hx (Sum.inl.inj z).symm
        rw [List.mem_cons]
        simp only [hx, false_or]
        rw [← this]
        simp [hne, valV]
theorem drop_keys {kvs : List (Key × V)} {ns : List Int} (e : kvs.map (·.1) = ns.map Sum.inl) (x : Int) : (kvs.filter fun kv => decide (kv.1 ≠ Sum.inl x)).map (·.1) = (ns.filter fun y => decide (y ≠ x)).map Sum.inl := by
  have h1 : (kvs.filter fun kv => decide (kv.1 ≠ Sum.inl x)).map (·.1) = (kvs.map (·.1)).filter fun k => decide (k ≠ Sum.inl x) := by rw [List.filter_map]; rfl
  rw [h1, e, List.filter_map]
  congr 1
  refine List.filter_congr fun y _ => ?_
  show decide (Sum.inl y ≠ Sum.inl x) = decide (y ≠ x)
  rw [Bool.eq_iff_iff, decide_eq_true_iff, decide_eq_true_iff]
  exact ⟨fun h q => h (by rw [q]), fun h q => h (Sum.inl.inj q)⟩
def spLDeed : Sp := fun vs H Q _ => ∃ (h : Addr) (t c b : Int) (hold : Int → Option Int) (n : Nat), vs = [.int t, .int c, .int b, .ref h] ∧ 0 ≤ c ∧ 0 ≤ b ∧ n < 64 ∧ HoAt H h hold n ∧
  (∀ (tp : Addr) (x : Int) (H' : Hp), 0 ≤ x → hold x = none → H tp = none → H' tp = some (tupD (t, W.take, x)) → HoAt H' h (fun z => if z = x then some t else hold z) (n + 1) → (∀ b o, H b = some o → b ≠ h → H' b = some o) → Q (.ref tp) H') ∧
  (∀ (tp : Addr) (x : Int) (H' : Hp), 0 ≤ x → hold x = some t → H tp = none → H' tp = some (tupD (t, W.give, x)) → HoAt H' h (fun z => if z = x then none else hold z) (n + 1) → (∀ b o, H b = some o → b ≠ h → H' b = some o) → Q (.ref tp) H') ∧
  (∀ H', Same H H' → Q .non H')
abbrev nLD : List Str := ["_law_thread", "_law_cell_here", "_law_first", "_law_holders", "_law_lock", "_law_mine"]
theorem ndOH : (["_law_one", "_law_holders", "_law_thread"] : List Str).Nodup := by decide +kernel
section
variable {P : Program} {w : World} {K : PySem.W.Frag} {mg : Str → Option Value} {base : Heap}
theorem scLD : FnScope nLD ["_law_thread", "_law_cell_here", "_law_first", "_law_holders"] (defScope s__law_lock_deed) := ⟨rfl, rfl, rfl, by decide +kernel, rfl, by decide +kernel, by decide +kernel⟩
theorem ok_ld {f C aW aT : Addr} {fd : FuncData} (F : Fun K "_law_lock_deed" "_law_lock_deed" s__law_lock_deed f fd) (T : Txt K mg C aW aT) (zs : mg "sorted" = none) : FnOk P w K mg base CX0 1 f fd ["_law_thread", "_law_cell_here", "_law_first", "_law_holders"] spLDeed := by
  refine F.ok scLD (fun vs H Q E h => ?_) (fun cdv A outer s H vs Q E hr h => ?_)
  · obtain ⟨h, t, c, b, hold, n, rfl, _⟩ := h
    rfl
  · obtain ⟨h, t, c, b, hold, n, rfl, c0, b0, n64, HO1, kT, kG, kN⟩ := h
    have nd := scLD.nd
    have hu := hu_of hr
    refine ⟨_, pss_cons (ps_set (i := 4) nd rfl (Or.inl rfl) (pe_op op_add (pv 2) (pe_op op_mod (pe_op op_fdiv (pv 1) pe_int) pe_int)))
      (pss_cons (ps_if (PW.pt (pw_and (pt_cmpR op_lt (pe_op op_mod (pv 1) pe_int) pe_int (nomark _)) (pw_and1 (pt_cmp (pc_dnotin hu (pv 4) (pv 3))))))
          (pss_cons (ps_dput hu (pv 3) (pv 4) (pv 0) rfl)
          (pss_one (ps_ret (pe_tup (pa_cons (pv 0) (pa_cons pe_str (pa_cons (pv 4) pa_nil)))))))
        pss_nil)
      (pss_cons (ps_setComp (i := 5) (N := ["_law_one", "_law_holders", "_law_thread"]) (nt := 1) (fr := [3, 0]) (tt := tTest (tOp rEq (tDGet (tVar 1) (tVar 0)) (tVar 2))) (te := tVar 0) nd rfl (Or.inl rfl) rfl
          (.of (XN := nLD) (osc := defScope s__law_lock_deed) rfl rfl rfl (by decide +kernel) (by decide +kernel) (by decide +kernel) rfl (by decide +kernel)) (pi_list (pe_callB (call_sortedD rfl) (by rfl) zs bSorted (pa_cons (pv 3) pa_nil)))
          (fun _ _ _ _ _ _ => ⟨pg_name (i := 0) ndOH rfl (Or.inl rfl), pif_one (pt_cmpR op_eq (pe_dget hu (pv 1) (pv 0) (fun _ _ => rfl)) (pv 2) (nomark _)), pv 0⟩))
      (pss_cons (ps_if (PW.pt (pw_and (pt_cmpR op_eq (pe_op op_mod (pv 1) pe_int) pe_int (nomark _)) (pw_and1 (pt_cmpR (op_neD (hu64_of hr)) (pv 5) (pe_lst pa_nil) (nomark _)))))
          (pss_cons (ps_set (i := 4) nd rfl (Or.inl rfl) (pe_ix ix_list (pv 5) (pe_op op_mod (pe_op op_fdiv (pv 1) pe_int) (pe_callB call_len_seq (by rfl) T.len PySem.boot_len (pa_cons (pv 5) pa_nil))) (fun _ _ => rfl)))
          (pss_cons (ps_expr (pe_dpop1 (pv 3) (pv 4) ⟨rfl, rfl, rfl, rfl⟩))
          (pss_one (ps_ret (pe_tup (pa_cons (pv 0) (pa_cons pe_str (pa_cons (pv 4) pa_nil))))))))
        pss_nil)
      (pss_one (ps_ret pe_non))))), ?_⟩
    refine ⟨_, rfl, _, rfl, _, _, rfl, rfl, ⟨by decide, by decide⟩, _, _, rfl, rfl, (by show (0 : Int) < 4; decide), _, _, rfl, rfl, ?_⟩
    dsimp only [gName]
    have p0 : 0 ≤ c / 3 % 4 := Int.emod_nonneg _ (by omega)
    have l0 : 0 ≤ b + c / 3 % 4 := by omega
    generalize b + c / 3 % 4 = l at l0
    have s1 := Same.refl H
    have HO2 := HO1
    obtain ⟨H1, hH1⟩ : ∃ H1, H1 = H := ⟨H, rfl⟩
    rw [← hH1] at s1 HO2 ⊢
    have s1 : Same H H1 := by rw [hH1]; exact Same.refl H
    obtain ⟨⟨kvs, ns, eh, ek, lk, ndn, vh⟩, hpos⟩ := id HO2
    refine PuT.ifs (c := c % 3 < 2 ∧ hold l = none) ((PuT.and (a := decide (c % 3 < 2)) (b := !(hold l).isSome) (fun Qt q => ⟨_, rfl, _, _, rfl, rfl, (by show (0 : Int) < 3; decide), _, _, rfl, rfl, _, rfl, q⟩) (fun _ Qt q => ⟨_, rfl, _, rfl, h, _, rfl, DGet.k (k := Sum.inl l) eh, _, rfl, by rw [vh l, Option.isSome_map]; exact q⟩)).iff (by simp)) (fun z => ?_) (fun z => ?_)
    · refine ⟨_, rfl, _, rfl, _, rfl, h, _, rfl, DPut.k (k := Sum.inl l) eh (small1000 (by omega)), ?_⟩
      dsimp only
      refine ⟨_, rfl, _, rfl, (by show 3 ≤ sizeLine; decide), fun r hr0 => ?_⟩
      obtain ⟨nrh, hr1⟩ := none_upd hr0
      have vn : valV kvs (Sum.inl l) = none := by rw [vh l, z.2]; rfl
      refine kT r l _ l0 z.2 (s1.free hr1) upd_same ⟨⟨putK kvs (Sum.inl l) (.int t), ns ++ [l], by rw [upd_ne nrh.symm, upd_same], ?_, ?_, ?_, fun x => ?_⟩, fun x hx => ?_⟩ (fun c o e hc => ?_)
      · rw [putK_new _ vn, List.map_append, ek, List.map_append]; rfl
      · have := length_putK kvs (Sum.inl l : Key) (.int t); omega
      · refine List.nodup_append.mpr ⟨ndn, by simp, fun a ha b hb e => ?_⟩
        rw [List.mem_singleton] at hb
        subst hb
        subst e
        have := (valV_mem ek a).mpr ha
        rw [vn] at this
        cases this
      · rw [valV_put]
        by_cases q : x = l
        · rw [if_pos (inl_inj.mpr q), if_pos q]; rfl
        · rw [if_neg (fun e => q (inl_inj.mp e)), if_neg q]; exact vh x
      · by_cases q : x = l
        · rw [q]; exact l0
        · rw [if_neg q] at hx
          exact hpos x hx
      · rw [upd_ne (ne_of_none (s1 _ _ e) hr1), upd_ne hc]; exact s1 _ _ e
    rw [setComp_iff]
    have lns : ns.length ≤ n := by
      have := congrArg List.length ek
      rw [List.length_map, List.length_map] at this
      omega
    refine ⟨_, rfl, h, kvs, ns, rfl, eh, ek, by omega, fun sl ns' hp hs nsl => ?_⟩
    have s2 := same_new (o := .lst (ns'.map V.int)) nsl
    have esl : upd H1 sl (.lst (ns'.map V.int)) sl = some (.lst (ns'.map V.int)) := upd_same
    generalize upd H1 sl (.lst (ns'.map V.int)) = H2 at s2 esl
    have hpl := hp.length_eq
    refine ⟨sl, rfl, ⟨_, SqL.of esl⟩, comp_intsF (fun x => decide (hold x = some t)) (small1000 (by omega)) (SqL.of esl) (fun x hx H' s' Qt qt => ?_) (fun D H3 hD s3 eD => ?_)⟩
    · have hx' : x ∈ ns := hp.mem_iff.mp hx
      have := (valV_mem ek x).mpr hx'
      rw [vh x, Option.isSome_map] at this
      obtain ⟨v, hv⟩ := Option.isSome_iff_exists.mp this
      have vx : valV kvs (Sum.inl x) = some (V.int v) := by rw [vh x, hv]; rfl
      refine ⟨_, rfl, _, rfl, h, .int v, rfl, by rw [← vx]; exact DGet.k (k := Sum.inl x) ((s2.trans s') _ _ eh), _, rfl, rfl, _, rfl, ?_⟩
      rw [dec_int', show decide (v = t) = decide (hold x = some t) by rw [hv]; simp]
      exact qt H' (Same.refl _)
    have s13 := s2.trans s3
    have eh3 := s13 _ _ eh
    have s03 := s1.trans s13
    generalize hmi : ns'.filter (fun x => decide (hold x = some t)) = mi at eD
    have hmem : ∀ x ∈ mi, hold x = some t := fun x hx => by
      rw [← hmi] at hx
      exact of_decide_eq_true (List.mem_filter.mp hx).2
    refine PuS.ifs (c := c % 3 = 2 ∧ mi ≠ []) ((PuS.and (a := decide (c % 3 = 2)) (b := decide (mi ≠ [])) (PuT.pus (fun Qt q => ⟨_, rfl, _, _, rfl, rfl, (by show (0 : Int) < 3; decide), rfl, _, rfl, by rw [dec_int']; exact q⟩)) (fun _ Ha sa => pus_neNil (a := D) rfl (SqL.of (sa _ _ eD)))).iff (by simp)) (fun H4 s4 z2 => ?_) (fun H4 s4 z2 => ?_)
    · have mlen : 0 < mi.length := List.length_pos_iff.mpr z2.2
      obtain ⟨j, hj, ej⟩ : ∃ j : Nat, j < mi.length ∧ c / 3 % (((mi.map V.int).length : Nat) : Int) = (j : Int) := by
        rw [List.length_map]
        have h1 : 0 ≤ c / 3 % (mi.length : Int) := Int.emod_nonneg _ (by omega)
        have h2 : c / 3 % (mi.length : Int) < mi.length := Int.emod_lt_of_pos _ (by omega)
        exact ⟨(c / 3 % (mi.length : Int)).toNat, by omega, by omega⟩
      obtain ⟨x, hex⟩ : ∃ x, x = mi[j] := ⟨_, rfl⟩
      have hx := hmem x (by rw [hex]; exact List.getElem_mem hj)
      have eD4 := s4 _ _ eD
      refine ⟨_, rfl, _, rfl, _, _, rfl, rfl, ⟨by decide, by decide⟩, _, rfl, D, _, rfl, .inl (SqL.of eD4), _, _, rfl, rfl, (by show (0 : Int) < (((mi.map V.int).length : Nat) : Int); rw [List.length_map]; omega), D, _, _, .int x, rfl, rfl, SqL.of eD4, ?hat2, ?_⟩
      case hat2 =>
        rw [ej]
        exact atI_nat (by rw [List.getElem?_map, hex]; simp [hj])
      dsimp only [gName]
      have eh4 := s4 _ _ eh3
      have vx : valV kvs (Sum.inl x) = some (V.int t) := by rw [vh x, hx]; rfl
      refine ⟨_, rfl, h, rfl, .inl ⟨kvs, .inl eh4⟩, _, rfl, kvs, Sum.inl x, V.int t, eh4, rfl, vx, ?_⟩
      dsimp only
      refine ⟨_, rfl, _, rfl, (by show 3 ≤ sizeLine; decide), fun r hr0 => ?_⟩
      obtain ⟨nrh, hr1⟩ := none_upd hr0
      have s04 := s03.trans s4
      refine kG r x _ (hpos x (by rw [hx]; exact fun q => by cases q)) hx (s04.free hr1) upd_same ⟨⟨dropK kvs (Sum.inl x), ns.filter (fun y => decide (y ≠ x)), by rw [upd_ne nrh.symm, upd_same], ?_, ?_, ?_, fun y => ?_⟩, fun y hy => ?_⟩ (fun c o e hc => ?_)
      · unfold dropK
        exact drop_keys ek x
      · have := dropK_le kvs (Sum.inl x : Key); omega
      · exact ndn.sublist List.filter_sublist
      · rw [valV_drop]
        by_cases q : y = x
        · rw [if_pos (inl_inj.mpr q), if_pos q]; rfl
        · rw [if_neg (fun e => q (inl_inj.mp e)), if_neg q]; exact vh y
      · by_cases q : y = x
        · rw [if_pos q] at hy; exact absurd rfl hy
        · rw [if_neg q] at hy; exact hpos y hy
      · rw [upd_ne (ne_of_none (s04 _ _ e) hr1), upd_ne hc]; exact s04 _ _ e
    · exact kN H4 (s03.trans s4)
end
end K
namespace K
open PySem L2 RC
def spTDeed (K : PySem.W.Frag) : Sp := fun vs H Q _ => ∃ (aw go : Addr) (tn mn : Nat) (c : Int) (fa fg : Nat → Bool), vs = [.int (tn : Int), .int c, .ref aw, .ref go] ∧ 0 ≤ c ∧ mn ≤ 6 ∧ H aw = some (.lst (bvV mn fa)) ∧ H go = some (.lst (bvV mn fg)) ∧
  (∀ (tp : Addr) (x : Nat) (H' : Hp), x < mn → fa x = false → H tp = none → H' tp = some (tupD ((tn : Int), W.fork, (x : Int))) → H' aw = some (.lst (bvV mn fun u => if u = x then true else fa u)) → (∀ b o, H b = some o → b ≠ aw → H' b = some o) → Q (.ref tp) H') ∧
  (∀ (tp : Addr) (x : Nat) (H' : Hp), x < mn → fa x = true → x ≠ tn → H tp = none → H' tp = some (tupD ((tn : Int), W.wait, (x : Int))) → H' go = some (.lst (bvV mn fun u => if u = x then true else fg u)) → (∀ b o, H b = some o → b ≠ go → H' b = some o) → Q (.ref tp) H') ∧
  (∀ H', Same H H' → Q .non H')
abbrev nTD : List Str := ["_law_thread", "_law_cell_here", "_law_awake", "_law_gone", "_law_asleep", "_law_one", "_law_others"]
theorem ndOA : (["_law_one", "_law_awake"] : List Str).Nodup := by decide +kernel
theorem ndOAT : (["_law_one", "_law_awake", "_law_thread"] : List Str).Nodup := by decide +kernel
theorem map_nats (p : Nat → Bool) (n : Nat) : ((List.range n).filter p).map (fun i : Nat => V.int (i : Int)) = (((List.range n).filter p).map fun i : Nat => (i : Int)).map V.int := by rw [List.map_map]; rfl
section
variable {P : Program} {w : World} {K : PySem.W.Frag} {mg : Str → Option Value} {base : Heap}
theorem scTD : FnScope nTD ["_law_thread", "_law_cell_here", "_law_awake", "_law_gone"] (defScope s__law_thread_deed) := ⟨rfl, rfl, rfl, by decide +kernel, rfl, by decide +kernel, by decide +kernel⟩
theorem ok_td {f C aW aT : Addr} {fd : FuncData} (F : Fun K "_law_thread_deed" "_law_thread_deed" s__law_thread_deed f fd) (T : Txt K mg C aW aT) : FnOk P w K mg base CX0 1 f fd ["_law_thread", "_law_cell_here", "_law_awake", "_law_gone"] (spTDeed K) := by
  refine F.ok scTD (fun vs H Q E h => ?_) (fun cdv A outer s H vs Q E hr h => ?_)
  · obtain ⟨aw, go, tn, mn, c, fa, fg, rfl, _⟩ := h
    rfl
  · obtain ⟨aw, go, tn, mn, c, fa, fg, rfl, c0, m6, eaw, ego, kF, kW, kN⟩ := h
    have nd := scTD.nd
    refine ⟨_, pss_cons (ps_setComp (i := 4) (N := ["_law_one", "_law_awake"]) (nt := 1) (fr := [2]) (tt := tNot (tB (tOp (rIxL K) (tVar 1) (tVar 0)))) (te := tVar 0) nd rfl (Or.inl rfl) rfl
          (.of (XN := nTD) (osc := defScope s__law_thread_deed) rfl rfl rfl (by decide +kernel) (by decide +kernel) (by decide +kernel) rfl (by decide +kernel)) (pi_range1 rfl T.rng (pa_cons (pe_callB call_len_seq (by rfl) T.len PySem.boot_len (pa_cons (pv 2) pa_nil)) pa_nil))
          (fun _ _ _ _ _ _ => ⟨pg_name (i := 0) ndOA rfl (Or.inl rfl), pif_one (pt_not (pt_val (pe_ix ix_list (pv 1) (pv 0) (fun _ _ => rfl)))), pv 0⟩))
      (pss_cons (ps_if (PW.pt (pw_and (pt_cmpR op_lt (pe_op op_mod (pv 1) pe_int) pe_int (nomark _)) (pw_and1 (pt_cmpR (op_neD (hu64_of hr)) (pv 4) (pe_lst pa_nil) (nomark _)))))
          (pss_cons (ps_set (i := 5) nd rfl (Or.inl rfl) (pe_ix ix_list (pv 4) (pe_op op_mod (pe_op op_fdiv (pv 1) pe_int) (pe_callB call_len_seq (by rfl) T.len PySem.boot_len (pa_cons (pv 4) pa_nil))) (fun _ _ => rfl)))
          (pss_cons (ps_asg pe_bl (pg_sub (pv 2) (pv 5) set_list))
          (pss_one (ps_ret (pe_tup (pa_cons (pv 0) (pa_cons pe_str (pa_cons (pv 5) pa_nil))))))))
        pss_nil)
      (pss_cons (ps_setComp (i := 6) (N := ["_law_one", "_law_awake", "_law_thread"]) (nt := 1) (fr := [2, 0]) (tt := tAnd (tB (tOp (rIxL K) (tVar 1) (tVar 0))) (tTest (tOp rNe (tVar 0) (tVar 2)))) (te := tVar 0) nd rfl (Or.inl rfl) rfl
          (.of (XN := nTD) (osc := defScope s__law_thread_deed) rfl rfl rfl (by decide +kernel) (by decide +kernel) (by decide +kernel) rfl (by decide +kernel)) (pi_range1 rfl T.rng (pa_cons (pe_callB call_len_seq (by rfl) T.len PySem.boot_len (pa_cons (pv 2) pa_nil)) pa_nil))
          (fun _ _ _ _ _ _ => ⟨pg_name (i := 0) ndOAT rfl (Or.inl rfl), pif_one (PW.pt (pw_and (pt_val (pe_ix ix_list (pv 1) (pv 0) (fun _ _ => rfl))) (pw_and1 (pt_cmpR op_ne (pv 0) (pv 2) (nomark _))))), pv 0⟩))
      (pss_cons (ps_if (PW.pt (pw_and (pt_cmpR op_eq (pe_op op_mod (pv 1) pe_int) pe_int (nomark _)) (pw_and (pt_cmpR op_eq (pe_op op_mod (pe_op op_fdiv (pv 1) pe_int) pe_int) pe_int (nomark _)) (pw_and1 (pt_cmpR (op_neD (hu64_of hr)) (pv 6) (pe_lst pa_nil) (nomark _))))))
          (pss_cons (ps_set (i := 5) nd rfl (Or.inl rfl) (pe_ix ix_list (pv 6) (pe_op op_mod (pe_op op_fdiv (pv 1) pe_int) (pe_callB call_len_seq (by rfl) T.len PySem.boot_len (pa_cons (pv 6) pa_nil))) (fun _ _ => rfl)))
          (pss_cons (ps_asg pe_bl (pg_sub (pv 3) (pv 5) set_list))
          (pss_one (ps_ret (pe_tup (pa_cons (pv 0) (pa_cons pe_str (pa_cons (pv 5) pa_nil))))))))
        pss_nil)
      (pss_one (ps_ret pe_non))))), ?_⟩
    refine setComp_rangeF (n := mn) (fun i => !fa i) (fun i => V.int (i : Int)) (fun Q' q => ⟨_, rfl, aw, _, rfl, .inl (SqL.of eaw), by rw [bvV_len]; exact q⟩) (by omega)
      (fun D hD i ys Qt hi q => ⟨_, rfl, _, rfl, aw, _, _, _, rfl, rfl, SqL.of (same_new hD _ _ eaw), atI_nat (bvV_get hi), _, rfl, q⟩) (fun D hD i ys Qe hi _ q => ⟨_, rfl, q⟩) (fun D hD => ?_)
    rw [map_nats]
    generalize hsl : (List.range mn).filter (fun i => !fa i) = sl
    have s1 := same_new (o := .lst ((sl.map fun i : Nat => (i : Int)).map V.int)) hD
    have eD : upd H D (.lst ((sl.map fun i : Nat => (i : Int)).map V.int)) D = some (.lst ((sl.map fun i : Nat => (i : Int)).map V.int)) := upd_same
    generalize upd H D (.lst ((sl.map fun i : Nat => (i : Int)).map V.int)) = H1 at s1 eD
    have slm : ∀ x ∈ sl, x < mn ∧ fa x = false := fun x hx => by
      rw [← hsl] at hx
      obtain ⟨h1, h2⟩ := List.mem_filter.mp hx
      exact ⟨List.mem_range.mp h1, by simpa using h2⟩
    have neE : ∀ l : List Nat, (l.map fun i : Nat => (i : Int)) ≠ [] ↔ l ≠ [] := fun l => by cases l <;> simp
    refine PuS.ifs (c := c % 4 < 3 ∧ (sl.map fun i : Nat => (i : Int)) ≠ []) ((PuS.and (a := decide (c % 4 < 3)) (b := decide ((sl.map fun i : Nat => (i : Int)) ≠ [])) (PuT.pus (fun Qt q => ⟨_, rfl, _, _, rfl, rfl, (by show (0 : Int) < 4; decide), _, _, rfl, rfl, _, rfl, q⟩)) (fun _ Ha sa => pus_neNil (a := D) rfl (SqL.of (sa _ _ eD)))).iff (by simp)) (fun H2 s2 z => ?_) (fun H2 s2 z => ?_)
    · have mlen : 0 < sl.length := List.length_pos_iff.mpr ((neE sl).mp z.2)
      obtain ⟨j, hj, ej⟩ : ∃ j : Nat, j < sl.length ∧ c / 4 % ((((sl.map fun i : Nat => (i : Int)).map V.int).length : Nat) : Int) = (j : Int) := by
        rw [List.length_map, List.length_map]
        have h1 : 0 ≤ c / 4 % (sl.length : Int) := Int.emod_nonneg _ (by omega)
        have h2 : c / 4 % (sl.length : Int) < sl.length := Int.emod_lt_of_pos _ (by omega)
        exact ⟨(c / 4 % (sl.length : Int)).toNat, by omega, by omega⟩
      obtain ⟨x, hex⟩ : ∃ x, x = sl[j] := ⟨_, rfl⟩
      obtain ⟨xm, xf⟩ := slm x (by rw [hex]; exact List.getElem_mem hj)
      have eD2 := s2 _ _ eD
      have s02 := s1.trans s2
      refine ⟨_, rfl, _, rfl, _, _, rfl, rfl, ⟨by decide, by decide⟩, _, rfl, D, _, rfl, .inl (SqL.of eD2), _, _, rfl, rfl, (by show (0 : Int) < ((((sl.map fun i : Nat => (i : Int)).map V.int).length : Nat) : Int); rw [List.length_map, List.length_map]; omega), D, _, _, .int (x : Int), rfl, rfl, SqL.of eD2, ?hat, ?_⟩
      case hat =>
        rw [ej]
        exact atI_nat (by rw [List.getElem?_map, List.getElem?_map, hex]; simp [hj])
      dsimp only [gName]
      have eaw2 := s02 _ _ eaw
      refine ⟨_, rfl, _, rfl, aw, _, (x : Int), x, rfl, rfl, eaw2, ?ix, ?_⟩
      case ix =>
        rw [bvV_len]
        unfold ixN
        rw [if_pos (by omega), if_pos (by omega)]
        rfl
      rw [bvV_set xm]
      refine ⟨_, rfl, _, rfl, (by show 3 ≤ sizeLine; decide), fun r hr0 => ?_⟩
      obtain ⟨nra, hr1⟩ := none_upd hr0
      refine kF r x _ xm xf (s02.free hr1) upd_same (by rw [upd_ne nra.symm, upd_same]) (fun b o e hb => ?_)
      rw [upd_ne (ne_of_none (s02 _ _ e) hr1), upd_ne hb]
      exact s02 _ _ e
    have eaw2 := (s1.trans s2) _ _ eaw
    refine setComp_rangeF (n := mn) (fun i => fa i && decide (i ≠ tn)) (fun i => V.int (i : Int)) (fun Q' q => ⟨_, rfl, aw, _, rfl, .inl (SqL.of eaw2), by rw [bvV_len]; exact q⟩) (by omega)
      (fun D hD i ys Qt hi q => (PuT.and (a := fa i) (b := decide (i ≠ tn)) (fun Qt q => ⟨_, rfl, _, rfl, aw, _, _, _, rfl, rfl, SqL.of (same_new hD _ _ eaw2), atI_nat (bvV_get hi), _, rfl, q⟩) (fun _ Qt q => ⟨_, rfl, _, rfl, rfl, _, rfl, by
        rw [dec_int', show (!decide ((i : Int) = (tn : Int))) = decide (i ≠ tn) by rw [Bool.eq_iff_iff]; simp; omega]
        exact q⟩)) Qt q) (fun D hD i ys Qe hi _ q => ⟨_, rfl, q⟩) (fun D2 hD2 => ?_)
    rw [map_nats]
    generalize hol : (List.range mn).filter (fun i => fa i && decide (i ≠ tn)) = ol
    have s3 := same_new (o := .lst ((ol.map fun i : Nat => (i : Int)).map V.int)) hD2
    have eD2 : upd H2 D2 (.lst ((ol.map fun i : Nat => (i : Int)).map V.int)) D2 = some (.lst ((ol.map fun i : Nat => (i : Int)).map V.int)) := upd_same
    generalize upd H2 D2 (.lst ((ol.map fun i : Nat => (i : Int)).map V.int)) = H3 at s3 eD2
    have olm : ∀ x ∈ ol, x < mn ∧ fa x = true ∧ x ≠ tn := fun x hx => by
      rw [← hol] at hx
      obtain ⟨h1, h2⟩ := List.mem_filter.mp hx
      rw [Bool.and_eq_true, decide_eq_true_iff] at h2
      exact ⟨List.mem_range.mp h1, h2⟩
    have s03 := s1.trans (s2.trans s3)
    refine PuS.ifs (c := c % 4 = 3 ∧ c / 4 % 3 = 0 ∧ (ol.map fun i : Nat => (i : Int)) ≠ []) ((PuS.and (a := decide (c % 4 = 3)) (b := decide (c / 4 % 3 = 0) && decide ((ol.map fun i : Nat => (i : Int)) ≠ [])) (PuT.pus (fun Qt q => ⟨_, rfl, _, _, rfl, rfl, (by show (0 : Int) < 4; decide), rfl, _, rfl, by rw [dec_int']; exact q⟩))
        (fun _ Ha sa => PuS.and (a := decide (c / 4 % 3 = 0)) (b := decide ((ol.map fun i : Nat => (i : Int)) ≠ [])) (PuT.pus (fun Qt q => ⟨_, rfl, _, _, rfl, rfl, ⟨by decide, by decide⟩, _, _, rfl, rfl, (by show (0 : Int) < 3; decide), rfl, _, rfl, by rw [dec_int']; exact q⟩)) (fun _ Hb sb => pus_neNil (a := D2) rfl (SqL.of (sb _ _ (sa _ _ eD2)))))).iff (by simp)) (fun H4 s4 z2 => ?_) (fun H4 s4 z2 => ?_)
    · have mlen : 0 < ol.length := List.length_pos_iff.mpr ((neE ol).mp z2.2.2)
      obtain ⟨j, hj, ej⟩ : ∃ j : Nat, j < ol.length ∧ c / 12 % ((((ol.map fun i : Nat => (i : Int)).map V.int).length : Nat) : Int) = (j : Int) := by
        rw [List.length_map, List.length_map]
        have h1 : 0 ≤ c / 12 % (ol.length : Int) := Int.emod_nonneg _ (by omega)
        have h2 : c / 12 % (ol.length : Int) < ol.length := Int.emod_lt_of_pos _ (by omega)
        exact ⟨(c / 12 % (ol.length : Int)).toNat, by omega, by omega⟩
      obtain ⟨x, hex⟩ : ∃ x, x = ol[j] := ⟨_, rfl⟩
      obtain ⟨xm, xf, xt⟩ := olm x (by rw [hex]; exact List.getElem_mem hj)
      have eD4 := s4 _ _ eD2
      have s04 := s03.trans s4
      refine ⟨_, rfl, _, rfl, _, _, rfl, rfl, ⟨by decide, by decide⟩, _, rfl, D2, _, rfl, .inl (SqL.of eD4), _, _, rfl, rfl, (by show (0 : Int) < ((((ol.map fun i : Nat => (i : Int)).map V.int).length : Nat) : Int); rw [List.length_map, List.length_map]; omega), D2, _, _, .int (x : Int), rfl, rfl, SqL.of eD4, ?hat3, ?_⟩
      case hat3 =>
        rw [ej]
        exact atI_nat (by rw [List.getElem?_map, List.getElem?_map, hex]; simp [hj])
      dsimp only [gName]
      have ego4 := s04 _ _ ego
      refine ⟨_, rfl, _, rfl, go, _, (x : Int), x, rfl, rfl, ego4, ?ix2, ?_⟩
      case ix2 =>
        rw [bvV_len]
        unfold ixN
        rw [if_pos (by omega), if_pos (by omega)]
        rfl
      rw [bvV_set xm]
      refine ⟨_, rfl, _, rfl, (by show 3 ≤ sizeLine; decide), fun r hr0 => ?_⟩
      obtain ⟨nra, hr1⟩ := none_upd hr0
      refine kW r x _ xm xf xt (s04.free hr1) upd_same (by rw [upd_ne nra.symm, upd_same]) (fun b o e hb => ?_)
      rw [upd_ne (ne_of_none (s04 _ _ e) hr1), upd_ne hb]
      exact s04 _ _ e
    · exact kN H4 (s03.trans s4)
end
end K
namespace K
open PySem L2 RC
theorem PuT.ifeJ {tt : TT} {σ : St} {H : Hp} {D : Ends} {rest body els : TS} {c : Prop} [Decidable c] (J : St → Hp → Prop) (h : PuT tt σ H (decide c)) (h1 : c → ∀ N : St → Hp → Prop, (∀ σ' H', J σ' H' → N σ' H') → body { D with nx := N } σ H) (h2 : ¬ c → ∀ N : St → Hp → Prop, (∀ σ' H', J σ' H' → N σ' H') → els { D with nx := N } σ H)
    (hr : ∀ σ' H', J σ' H' → rest D σ' H') : tSeq (tIfS tt body els) rest D σ H := h _ (by
  by_cases z : c
  · rw [decide_eq_true z]; exact iteT (h1 z (rest D) hr)
  · rw [decide_eq_false z]; exact iteF (h2 z (rest D) hr))
theorem seq_asgC' {v : V} {i : Nat} {rest : TS} {D : Ends} {σ : St} {H : Hp} (h : rest D (σ.set i (some v)) H) : tSeq (tAsg (tC v) (gName i)) rest D σ H := h
structure MakAt (H : Hp) (aw go h da : Addr) (mn : Nat) (as ps : List Int) (hold : Int → Option Int) (xs : List V) (ds : List Deed) (i : Nat) : Prop where
  eaw : H aw = some (.lst (bvV mn fun u => decide ((u : Int) ∈ as)))
  ego : H go = some (.lst (bvV mn fun u => decide ((u : Int) ∈ ps)))
  eh : HoAt H h hold i
  eda : H da = some (.lst xs)
  dds : Deeds H xs ds
  gen : Gen (mn : Int) as ps hold ds
  ld : ds.length = i
theorem MakAt.keep {H H' : Hp} {aw go h da : Addr} {mn : Nat} {as ps : List Int} {hold : Int → Option Int} {xs : List V} {ds : List Deed} {i : Nat} (s : Same H H') (g : MakAt H aw go h da mn as ps hold xs ds i) : MakAt H' aw go h da mn as ps hold xs ds i :=
  ⟨s _ _ g.eaw, s _ _ g.ego, g.eh.same s, s _ _ g.eda, g.dds.same s, g.gen, g.ld⟩
structure NewAt (H : Hp) (aw go h da tp : Addr) (mn : Nat) (as ps : List Int) (hold : Int → Option Int) (xs : List V) (ds : List Deed) (d : Deed) (i : Nat) : Prop where
  eaw : H aw = some (.lst (bvV mn fun u => decide ((u : Int) ∈ as)))
  ego : H go = some (.lst (bvV mn fun u => decide ((u : Int) ∈ ps)))
  eh : HoAt H h hold (i + 1)
  eda : H da = some (.lst xs)
  dds : Deeds H xs ds
  gen : Gen (mn : Int) as ps hold (ds ++ [d])
  ld : ds.length = i
  tp : H tp = some (tupD d)
theorem HoAt.up {H : Hp} {h : Addr} {hold : Int → Option Int} {n m : Nat} (g : HoAt H h hold n) (l : n ≤ m) : HoAt H h hold m := by
  obtain ⟨kvs, ns, e, e1, e2, r⟩ := g.ex
  exact ⟨⟨kvs, ns, e, e1, by omega, r⟩, g.pos⟩
def spDeeds (K : PySem.W.Frag) : Sp := fun vs H Q _ => ∃ (a : Addr) (mn : Nat) (ns : List Int), vs = [.ref a, .int (mn : Int), .int 40] ∧ SqL K H a (ns.map V.int) ∧ ns.length ≤ 63 ∧ 1 ≤ mn ∧ mn ≤ 6 ∧
  ∀ (l : Addr) (xs : List V) (ds : List Deed) (H' : Hp), Same H H' → H l = none → H' l = some (.lst xs) → Deeds H' xs ds → ds.length ≤ 60 → Fault (mn : Int) ds none → Q (.ref l) H'
abbrev nDs : List Str := ["_law_script", "_law_many", "_law_most", "_law_far", "_law_awake", "_law_gone", "_law_holders", "_law_deeds_here", "_law_k", "_law_cell_here", "_law_able", "_law_thread", "_law_deed"]
theorem ndO : (["_law_one"] : List Str).Nodup := by decide +kernel
theorem ndOAG : (["_law_one", "_law_awake", "_law_gone"] : List Str).Nodup := by decide +kernel
theorem bMin : bootBuiltins "min" = some (.builtin "min") := by decide +kernel
section
variable {P : Program} {w : World} {K : PySem.W.Frag} {mg : Str → Option Value} {base : Heap}
theorem scDs : FnScope nDs ["_law_script", "_law_many", "_law_most"] (defScope sDeeds) := ⟨rfl, rfl, rfl, by decide +kernel, rfl, by decide +kernel, by decide +kernel⟩
theorem ok_deeds {f C aW aT fC fL fT : Addr} {fd fdC fdL fdT : FuncData} (F : Fun K "_law_deeds" "_law_deeds" sDeeds f fd) (T : Txt K mg C aW aT) (zm : mg "min" = none)
    (GC : FnOk P w K mg base CX0 1 fC fdC ["_law_script", "_law_k"] (spCell K)) (cC : Cal K mg "_law_cell" fC fdC ["_law_script", "_law_k"])
    (GL : FnOk P w K mg base CX0 1 fL fdL ["_law_thread", "_law_cell_here", "_law_first", "_law_holders"] spLDeed) (cL : Cal K mg "_law_lock_deed" fL fdL ["_law_thread", "_law_cell_here", "_law_first", "_law_holders"])
    (GT : FnOk P w K mg base CX0 1 fT fdT ["_law_thread", "_law_cell_here", "_law_awake", "_law_gone"] (spTDeed K)) (cT : Cal K mg "_law_thread_deed" fT fdT ["_law_thread", "_law_cell_here", "_law_awake", "_law_gone"]) :
    FnOk P w K mg base CX0 2 f fd ["_law_script", "_law_many", "_law_most"] (spDeeds K) := by
  refine F.ok scDs (fun vs H Q E h => ?_) (fun cdv A outer s H vs Q E hr h => ?_)
  · obtain ⟨a, mn, ns, rfl, _⟩ := h
    rfl
  · obtain ⟨a, mn, ns, rfl, hS, hlen, m1, m6, k⟩ := h
    have nd := scDs.nd
    refine ⟨_, pss_cons (ps_set (i := 3) nd rfl (Or.inl rfl) (pe_ix ix_list (pe_lst (pa_cons pe_int (pa_cons pe_int (pa_cons (pe_op op_pow pe_int pe_int) pa_nil)))) (pe_op op_mod (pe_op op_fdiv (pe_call GC hr rfl cC.mgf cC.kp cC.b .nil pass0 (pa_cons (pv 0) (pa_cons pe_int pa_nil))) pe_int) pe_int) (fun _ _ => rfl)))
      (pss_cons (ps_set (i := 4) nd rfl (Or.inr rfl) (pe_comp (N := ["_law_one"]) (nt := 1) (fr := []) (te := tOp rEq (tVar 0) (tC (.int 0))) rfl
          (.of (XN := nDs) (osc := defScope sDeeds) rfl rfl rfl (by decide +kernel) (by decide +kernel) (by decide +kernel) rfl (by decide +kernel)) (pi_range1 rfl T.rng (pa_cons (pv 1) pa_nil))
          (fun _ _ _ _ _ _ => ⟨pg_name (i := 0) ndO rfl (Or.inl rfl), pif_nil, pe_cmpR op_eq (pv 0) pe_int (nomark _)⟩)))
      (pss_cons (ps_set (i := 5) nd rfl (Or.inr rfl) (pe_op op_rep (pe_lst (pa_cons pe_bl pa_nil)) (pv 1)))
      (pss_cons (ps_set (i := 6) nd rfl (Or.inl rfl) pe_dnewK)
      (pss_cons (ps_set (i := 7) nd rfl (Or.inl rfl) (pe_lst pa_nil))
      (pss_cons (ps_for PassesOwn.never rfl (pi_range2 rfl T.rng (pa_cons pe_int (pa_cons (pe_callB (call_min2 rfl) (by rfl) zm bMin (pa_cons (pe_callB call_len_seq (by rfl) T.len PySem.boot_len (pa_cons (pv 0) pa_nil)) (pa_cons (pe_op op_add (pv 2) pe_int) pa_nil))) pa_nil))) (pg_name (i := 8) nd rfl (Or.inl rfl))
        (pss_cons (ps_set (i := 9) nd rfl (Or.inl rfl) (pe_call GC hr rfl cC.mgf cC.kp cC.b .nil pass0 (pa_cons (pv 0) (pa_cons (pv 8) pa_nil))))
        (pss_cons (ps_setComp (i := 10) (N := ["_law_one", "_law_awake", "_law_gone"]) (nt := 1) (fr := [4, 5]) (tt := tAnd (tB (tOp (rIxL K) (tVar 1) (tVar 0))) (tNot (tB (tOp (rIxL K) (tVar 2) (tVar 0))))) (te := tVar 0) nd rfl (Or.inl rfl) rfl
            (.of (XN := nDs) (osc := defScope sDeeds) rfl rfl rfl (by decide +kernel) (by decide +kernel) (by decide +kernel) rfl (by decide +kernel)) (pi_range1 rfl T.rng (pa_cons (pv 1) pa_nil))
            (fun _ _ _ _ _ _ => ⟨pg_name (i := 0) ndOAG rfl (Or.inl rfl), pif_one (PW.pt (pw_and (pt_val (pe_ix ix_list (pv 1) (pv 0) (fun _ _ => rfl))) (pw_and1 (pt_not (pt_val (pe_ix ix_list (pv 2) (pv 0) (fun _ _ => rfl))))))), pv 0⟩))
        (pss_cons (ps_set (i := 11) nd rfl (Or.inl rfl) (pe_ix ix_list (pv 10) (pe_op op_mod (pe_op op_fdiv (pv 9) pe_int) (pe_callB call_len_seq (by rfl) T.len PySem.boot_len (pa_cons (pv 10) pa_nil))) (fun _ _ => rfl)))
        (pss_cons (ps_set (i := 12) nd rfl (Or.inl rfl) pe_non)
        (pss_cons (ps_if (pt_cmpR op_lt (pe_op op_mod (pv 9) pe_int) pe_int (nomark _)) (pss_one (ps_set (i := 12) nd rfl (Or.inl rfl) (pe_call GL hr rfl cL.mgf cL.kp cL.b .nil pass0 (pa_cons (pv 11) (pa_cons (pe_op op_fdiv (pv 9) pe_int) (pa_cons (pv 3) (pa_cons (pv 6) pa_nil)))))))
          (pss_one (ps_if (pt_cmpR op_eq (pe_op op_mod (pv 9) pe_int) pe_int (nomark _)) (pss_one (ps_set (i := 12) nd rfl (Or.inl rfl) (pe_call GT hr rfl cT.mgf cT.kp cT.b .nil pass0 (pa_cons (pv 11) (pa_cons (pe_op op_fdiv (pv 9) pe_int) (pa_cons (pv 4) (pa_cons (pv 5) pa_nil))))))) pss_nil)))
        (pss_cons (ps_if (pt_cmpR op_isN (pv 12) pe_non (nomark _)) (pss_one (ps_set (i := 12) nd rfl (Or.inl rfl) (pe_tup (pa_cons (pv 11) (pa_cons (pe_ix ix_list (pe_lst (pa_cons pe_str (pa_cons pe_str pa_nil))) (pe_op op_mod (pe_op op_fdiv (pv 9) pe_int) pe_int) (fun _ _ => rfl)) (pa_cons (pe_op op_add (pv 3) (pe_op op_mod (pe_op op_fdiv (pv 9) pe_int) pe_int)) pa_nil)))))) pss_nil)
        (pss_one (ps_expr (pe_bm PySem.F.plainAttrs_list PySem.F.slot_list_append PySem.F.type_list_append mt_append (pv 7) (pa_cons (pv 12) pa_nil)))))))))))
      (pss_one (ps_ret (pv 7)))))))), ?_⟩
    have hlx : (ns.map V.int).length = ns.length := List.length_map _
    -- far
    refine ⟨_, _, rfl, rfl, ⟨by decide, by decide, by decide⟩, (by show 3 ≤ sizeLine; decide), fun a1 na1 => ?_⟩
    have s1 := same_new (o := .lst [V.int 0, V.int 0, V.int ((10 : Int) ^ (50 : Int).toNat)]) na1
    refine ⟨_, rfl, a, 0, ns, rfl, s1.seq hS, by decide, fun c0 hc0 => ?_⟩
    obtain ⟨b, b0, eb⟩ : ∃ b : Int, 0 ≤ b ∧ atI [V.int 0, V.int 0, V.int ((10 : Int) ^ (50 : Int).toNat)] (c0 / 6 % 3) = some (.int b) := by
      have : c0 / 6 % 3 = 0 ∨ c0 / 6 % 3 = 1 ∨ c0 / 6 % 3 = 2 := by omega
      rcases this with e | e | e
      · exact ⟨0, by decide, by rw [e]; rfl⟩
      · exact ⟨0, by decide, by rw [e]; rfl⟩
      · exact ⟨(10 : Int) ^ (50 : Int).toNat, by decide, by rw [e]; rfl⟩
    refine ⟨_, _, rfl, rfl, ⟨by decide, by decide⟩, _, _, rfl, rfl, (by show (0 : Int) < 3; decide), a1, _, _, .int b, rfl, rfl, SqL.of upd_same, eb, ?_⟩
    dsimp only [gName]
    generalize upd H a1 (.lst [V.int 0, V.int 0, V.int ((10 : Int) ^ (50 : Int).toNat)]) = H1 at s1
    -- awake
    refine setComp_rangeF (n := mn) (fun _ => true) (fun i : Nat => V.bl (decide ((i : Int) ∈ [(0 : Int)]))) (fun Q' q => ⟨_, rfl, q⟩) (by omega) (fun D hD i ys Qt hi q => q) (fun D hD i ys Qe hi _ q => ⟨_, rfl, rfl, by
      rw [dec_int', show decide ((i : Int) = 0) = decide ((i : Int) ∈ [(0 : Int)]) by simp]
      exact q⟩) (fun aw naw => ?_)
    rw [filt_true]
    have eaw1 : upd H1 aw (.lst ((List.range mn).map fun i : Nat => V.bl (decide ((i : Int) ∈ [(0 : Int)])))) aw = some (.lst (bvV mn fun u => decide ((u : Int) ∈ [(0 : Int)]))) := upd_same
    have s2 := s1.trans (same_new (o := .lst ((List.range mn).map fun i : Nat => V.bl (decide ((i : Int) ∈ [(0 : Int)])))) naw)
    have naw0 : H aw = none := s1.free naw
    generalize upd H1 aw (.lst ((List.range mn).map fun i : Nat => V.bl (decide ((i : Int) ∈ [(0 : Int)])))) = H2 at eaw1 s2
    -- gone
    refine ⟨(by show 1 ≤ sizeLine; decide), fun l0 nl0 => ?_⟩
    have s3 := same_new (o := .lst [V.bl false]) nl0
    refine ⟨_, rfl, l0, (mn : Int), _, rfl, rfl, upd_same, by omega, by omega, (by show 1 * _ ≤ _; exact Nat.le_of_lt (small1000 (by omega))), fun go ngo => ?_⟩
    dsimp only [gName]
    have s4 := s3.trans (same_new (o := .lst (List.replicate ((mn : Nat) : Int).toNat [V.bl false]).flatten) ngo)
    have ngo2 : H2 go = none := s3.free ngo
    have ego1 : upd (upd H2 l0 (.lst [V.bl false])) go (.lst (List.replicate ((mn : Nat) : Int).toNat [V.bl false]).flatten) go = some (.lst (bvV mn fun u => decide ((u : Int) ∈ ([] : List Int)))) := by
      rw [upd_same]
      show some (HO.lst (List.replicate mn [V.bl false]).flatten) = _
      rw [flat_false]
      congr 2
    have n_go_aw : go ≠ aw := fun e => by rw [e] at ngo2; rw [ngo2] at eaw1; cases eaw1
    have eaw2 := s4 _ _ eaw1
    have ngo0 : H go = none := s2.free ngo2
    have s04 := s2.trans s4
    generalize upd (upd H2 l0 (.lst [V.bl false])) go (.lst (List.replicate ((mn : Nat) : Int).toNat [V.bl false]).flatten) = H4 at s04 ego1 eaw2
    clear s4 s3 s2 s1 nl0 naw eaw1 ngo ngo2
    -- holders and deeds
    refine fun h nh => ?_
    dsimp only [gName]
    refine ⟨Nat.zero_le _, fun da nda => ?_⟩
    dsimp only [gName]
    obtain ⟨n_da_h, nda1⟩ := none_upd nda
    have s5 : Same H4 (upd (upd H4 h (.dK [])) da (.lst [])) := (same_new nh).put2 nda1
    have g5 : MakAt (upd (upd H4 h (.dK [])) da (.lst [])) aw go h da mn [0] [] (fun _ => none) [] [] 0 :=
      ⟨s5 _ _ eaw2, s5 _ _ ego1, ⟨⟨[], [], by rw [upd_ne n_da_h.symm, upd_same], rfl, Nat.le_refl _, List.nodup_nil, fun x => rfl⟩, fun x hx => absurd rfl hx⟩, upd_same, Deeds.nil, Gen.start (by omega), rfl⟩
    have n_h_aw : h ≠ aw := (ne_of_none eaw2 nh).symm
    have n_h_go : h ≠ go := (ne_of_none ego1 nh).symm
    have n_da_aw : da ≠ aw := (ne_of_none eaw2 nda1).symm
    have n_da_go : da ≠ go := (ne_of_none ego1 nda1).symm
    have nh0 := s04.free nh
    have nda0 := s04.free nda1
    have s05 := s04.trans s5
    generalize upd (upd H4 h (.dK [])) da (.lst []) = H5 at s05 g5
    clear s5 s04 nda nh nda1 eaw2 ego1
    have hN : ∃ N : Nat, N ≤ 60 ∧ ((if (40 : Int) + 1 < ((ns.map V.int).length : Int) then (40 : Int) + 1 else ((ns.map V.int).length : Int)) - 1).toNat = N := ⟨_, by rw [hlx]; split <;> omega, rfl⟩
    obtain ⟨N, hN60, eN⟩ := hN
    refine ⟨_, rfl, a, _, rfl, .inl (s05.seq hS), _, rfl, _, _, rfl, rfl, _, _, rfl, _, _, rfl, ⟨by omega, by omega, by rw [hlx]; split <;> omega, by rw [hlx]; split <;> omega⟩, for_range (lo := 1) (n := ((if (40 : Int) + 1 < ((ns.map V.int).length : Int) then (40 : Int) + 1 else ((ns.map V.int).length : Int)) - 1).toNat)
      (fun i σ H6 => ∃ (as ps : List Int) (hold : Int → Option Int) (xs : List V) (ds : List Deed) (v8 v9 v10 v11 v12 : Option V), σ = [some (.ref a), some (.int (mn : Int)), some (.int 40), some (.int b), some (.ref aw), some (.ref go), some (.ref h), some (.ref da), v8, v9, v10, v11, v12] ∧ Same H H6 ∧ MakAt H6 aw go h da mn as ps hold xs ds i)
      ⟨[0], [], _, [], [], none, none, none, none, none, rfl, s05, g5⟩ ?_ ?_⟩
    · rintro i σ H6 hi ⟨as, ps, hold, xs, ds, v8, v9, v10, v11, v12, rfl, s6, g⟩
      rw [eN] at hi
      dsimp only [gName]
      refine ⟨_, rfl, _, rfl, a, 1 + (i : Int), ns, rfl, s6.seq hS, by omega, fun c hc => ?_⟩
      dsimp only [gName]
      refine setComp_rangeF (n := mn) (fun u : Nat => decide ((u : Int) ∈ as) && !decide ((u : Int) ∈ ps)) (fun i => V.int (i : Int)) (fun Q' q => ⟨_, rfl, q⟩) (by omega)
        (fun D hD i ys Qt hi q => (PuT.and (a := decide ((i : Int) ∈ as)) (b := !decide ((i : Int) ∈ ps)) (fun Qt q => ⟨_, rfl, _, rfl, aw, _, _, _, rfl, rfl, SqL.of (same_new hD _ _ g.eaw), atI_nat (bvV_get hi), _, rfl, q⟩) (fun _ => PuT.not (a := decide ((i : Int) ∈ ps)) (fun Qt q => ⟨_, rfl, _, rfl, go, _, _, _, rfl, rfl, SqL.of (same_new hD _ _ g.ego), atI_nat (bvV_get hi), _, rfl, q⟩))) Qt q) (fun D hD i ys Qe hi _ q => ⟨_, rfl, q⟩) (fun D hD => ?_)
      rw [map_nats]
      generalize hsl : (List.range mn).filter (fun u : Nat => decide ((u : Int) ∈ as) && !decide ((u : Int) ∈ ps)) = sl
      have s7 := same_new (o := .lst ((sl.map fun i : Nat => (i : Int)).map V.int)) hD
      have eD : upd H6 D (.lst ((sl.map fun i : Nat => (i : Int)).map V.int)) D = some (.lst ((sl.map fun i : Nat => (i : Int)).map V.int)) := upd_same
      generalize upd H6 D (.lst ((sl.map fun i : Nat => (i : Int)).map V.int)) = H7 at s7 eD
      have slm : ∀ x ∈ sl, x < mn ∧ (x : Int) ∈ as ∧ ¬ (x : Int) ∈ ps := fun x hx => by
        rw [← hsl] at hx
        obtain ⟨h1, h2⟩ := List.mem_filter.mp hx
        rw [Bool.and_eq_true, decide_eq_true_iff] at h2
        exact ⟨List.mem_range.mp h1, h2.1, by simpa using h2.2⟩
      have sne : 0 < sl.length := by
        obtain ⟨t, ht1, ht2⟩ := g.gen.live
        obtain ⟨b1, b2⟩ := g.gen.bnd t ht1
        refine List.length_pos_iff.mpr fun e => ?_
        have : t.toNat ∈ sl := by
          rw [← hsl]
          refine List.mem_filter.mpr ⟨List.mem_range.mpr (by omega), ?_⟩
          rw [show ((t.toNat : Nat) : Int) = t by omega]
          simp [ht1, ht2]
        rw [e] at this
        cases this
      obtain ⟨j, hj, ej⟩ : ∃ j : Nat, j < sl.length ∧ c / 3 % ((((sl.map fun i : Nat => (i : Int)).map V.int).length : Nat) : Int) = (j : Int) := by
        rw [List.length_map, List.length_map]
        have h1 : 0 ≤ c / 3 % (sl.length : Int) := Int.emod_nonneg _ (by omega)
        have h2 : c / 3 % (sl.length : Int) < sl.length := Int.emod_lt_of_pos _ (by omega)
        exact ⟨(c / 3 % (sl.length : Int)).toNat, by omega, by omega⟩
      obtain ⟨tn, het⟩ : ∃ x, x = sl[j] := ⟨_, rfl⟩
      obtain ⟨tm, ta, tp⟩ := slm tn (by rw [het]; exact List.getElem_mem hj)
      refine ⟨_, rfl, _, rfl, _, _, rfl, rfl, ⟨by decide, by decide⟩, _, rfl, D, _, rfl, .inl (SqL.of eD), _, _, rfl, rfl, (by show (0 : Int) < ((((sl.map fun i : Nat => (i : Int)).map V.int).length : Nat) : Int); rw [List.length_map, List.length_map]; omega), D, _, _, .int (tn : Int), rfl, rfl, SqL.of eD, ?hat, ?_⟩
      case hat =>
        rw [ej]
        exact atI_nat (by rw [List.getElem?_map, List.getElem?_map, het]; simp [hj])
      dsimp only [gName]
      have g7 := g.keep s7
      have s07 := s6.trans s7
      clear g s6 s7
      refine seq_asgC' ?_
      have eh7 := g7.eh
      have c7 : 0 ≤ c / 7 := Int.ediv_nonneg hc (by decide)
      have n_ho : ∀ {b o}, H b = some o → b ≠ h := fun e => ne_of_none e nh0
      refine PuT.ifeJ (c := c % 7 < 3) (fun σ' H' => (σ' = [some (.ref a), some (.int (mn : Int)), some (.int 40), some (.int b), some (.ref aw), some (.ref go), some (.ref h), some (.ref da), some (.int (1 + (i : Int))), some (.int c), some (.ref D), some (.int (tn : Int)), some .non] ∧ Same H H' ∧ MakAt H' aw go h da mn as ps hold xs ds i) ∨
          (∃ (tp : Addr) (as' ps' : List Int) (hold' : Int → Option Int) (d : Deed), σ' = [some (.ref a), some (.int (mn : Int)), some (.int 40), some (.int b), some (.ref aw), some (.ref go), some (.ref h), some (.ref da), some (.int (1 + (i : Int))), some (.int c), some (.ref D), some (.int (tn : Int)), some (.ref tp)] ∧ Same H H' ∧ NewAt H' aw go h da tp mn as' ps' hold' xs ds d i))
        (fun Qt q => ⟨_, rfl, _, _, rfl, rfl, (by show (0 : Int) < 7; decide), _, _, rfl, rfl, _, rfl, q⟩) (fun z N hN => ?_) (fun z N hN => ?_) ?_
      · -- a lock
        refine ⟨_, rfl, _, rfl, _, _, rfl, rfl, ⟨by decide, by decide⟩, _, rfl, _, rfl, h, (tn : Int), c / 7, b, hold, i, rfl, c7, b0, by omega, g7.eh, fun tp' x H8 x0 hx ntp etp eho kp => ?_, fun tp' x H8 x0 hx ntp etp eho kp => ?_, fun H8 s8 => ?_⟩
        · refine hN _ _ (.inr ⟨tp', as, ps, _, ((tn : Int), W.take, x), rfl, fun b' o e => kp b' o (s07 _ _ e) (n_ho e), ⟨kp _ _ g7.eaw n_h_aw.symm, kp _ _ g7.ego n_h_go.symm, eho, kp _ _ g7.eda n_da_h, g7.dds.tsame fun b' ys e => ?_, g7.gen.take ta tp x0 hx, g7.ld, etp⟩⟩)
          obtain ⟨kvs, _, ek, _⟩ := g7.eh.ex
          exact kp _ _ e (ne_of e ek (by intro z; cases z))
        · refine hN _ _ (.inr ⟨tp', as, ps, _, ((tn : Int), W.give, x), rfl, fun b' o e => kp b' o (s07 _ _ e) (n_ho e), ⟨kp _ _ g7.eaw n_h_aw.symm, kp _ _ g7.ego n_h_go.symm, eho, kp _ _ g7.eda n_da_h, g7.dds.tsame fun b' ys e => ?_, g7.gen.give ta tp x0 hx, g7.ld, etp⟩⟩)
          obtain ⟨kvs, _, ek, _⟩ := g7.eh.ex
          exact kp _ _ e (ne_of e ek (by intro z; cases z))
        · exact hN _ _ (.inl ⟨rfl, s07.trans s8, g7.keep s8⟩)
      · refine PuT.if1 (c := c % 7 = 3) (fun Qt q => ⟨_, rfl, _, _, rfl, rfl, (by show (0 : Int) < 7; decide), rfl, _, rfl, by rw [dec_int']; exact q⟩) (fun z2 => ?_) (fun z2 => hN _ _ (.inl ⟨rfl, s07, g7⟩))
        refine ⟨_, rfl, _, rfl, _, _, rfl, rfl, ⟨by decide, by decide⟩, _, rfl, _, rfl, aw, go, tn, mn, c / 7, _, _, rfl, c7, m6, g7.eaw, g7.ego, fun tp' x H8 xm xf ntp etp eaw8 kp => ?_, fun tp' x H8 xm xf xt ntp etp ego8 kp => ?_, fun H8 s8 => ?_⟩
        · have xn : ¬ (x : Int) ∈ as := of_decide_eq_false xf
          obtain ⟨kvs, nks, ek, er⟩ := g7.eh.ex
          refine hN _ _ (.inr ⟨tp', as ++ [(x : Int)], ps, hold, ((tn : Int), W.fork, (x : Int)), rfl, fun b' o e => kp b' o (s07 _ _ e) (ne_of_none e naw0), ⟨?_, kp _ _ g7.ego n_go_aw, ⟨⟨kvs, nks, kp _ _ ek n_h_aw, er.1, by have := er.2.1; omega, er.2.2⟩, g7.eh.pos⟩, kp _ _ g7.eda n_da_aw, g7.dds.tsame fun b' ys e => kp _ _ e (ne_of e g7.eaw (by intro z; cases z)), g7.gen.fork ta tp (by omega) (by omega) xn, g7.ld, etp⟩⟩)
          rw [eaw8]
          congr 2
          refine bvV_congr fun u hu => ?_
          rw [Bool.eq_iff_iff]
          by_cases q : u = x
          · subst q; simp
          · have q' : ¬ ((u : Int) = (x : Int)) := by omega
            simp [q, q']
        · have xa : (x : Int) ∈ as := of_decide_eq_true xf
          obtain ⟨kvs, nks, ek, er⟩ := g7.eh.ex
          refine hN _ _ (.inr ⟨tp', as, ps ++ [(x : Int)], hold, ((tn : Int), W.wait, (x : Int)), rfl, fun b' o e => kp b' o (s07 _ _ e) (ne_of_none e ngo0), ⟨kp _ _ g7.eaw n_go_aw.symm, ?_, ⟨⟨kvs, nks, kp _ _ ek n_h_go, er.1, by have := er.2.1; omega, er.2.2⟩, g7.eh.pos⟩, kp _ _ g7.eda n_da_go, g7.dds.tsame fun b' ys e => kp _ _ e (ne_of e g7.ego (by intro z; cases z)), g7.gen.wait ta tp xa (by omega), g7.ld, etp⟩⟩)
          rw [ego8]
          congr 2
          refine bvV_congr fun u hu => ?_
          rw [Bool.eq_iff_iff]
          by_cases q : u = x
          · subst q; simp
          · have q' : ¬ ((u : Int) = (x : Int)) := by omega
            simp [q, q']
        · exact hN _ _ (.inl ⟨rfl, s07.trans s8, g7.keep s8⟩)
      -- a read or a write, and the list
      rintro σ' H8 hJ
      refine PuS.ifsJ (c := σ'[12]? = some (some V.non)) (fun σ'' H' => ∃ (tp : Addr) (as' ps' : List Int) (hold' : Int → Option Int) (d : Deed), σ'' = [some (.ref a), some (.int (mn : Int)), some (.int 40), some (.int b), some (.ref aw), some (.ref go), some (.ref h), some (.ref da), some (.int (1 + (i : Int))), some (.int c), some (.ref D), some (.int (tn : Int)), some (.ref tp)] ∧ Same H H' ∧ NewAt H' aw go h da tp mn as' ps' hold' xs ds d i)
        ?_ (fun H9 s9 z N hN => ?_) (fun H9 s9 z => ?_) ?_
      · rcases hJ with ⟨rfl, _⟩ | ⟨tp', as', ps', hold', d, rfl, _⟩
        · exact PuT.pus (fun Qt q => ⟨_, rfl, rfl, _, rfl, q⟩)
        · exact PuT.pus (fun Qt q => ⟨_, rfl, rfl, _, rfl, q⟩)
      · rcases hJ with ⟨rfl, s8, g8⟩ | ⟨tp', as', ps', hold', d, rfl, _⟩
        · have g9 := g8.keep s9
          have s09 := s8.trans s9
          refine ⟨_, rfl, (by show 2 ≤ sizeLine; decide), fun q nq => ?_⟩
          have sq := same_new (o := .lst [V.str "read", V.str "write"]) nq
          obtain ⟨wd, hwd, ewd⟩ : ∃ wd : Str, (wd = W.read ∨ wd = W.write) ∧ atI [V.str "read", V.str "write"] (c / 5 % 2) = some (V.str wd) := by
            have : c / 5 % 2 = 0 ∨ c / 5 % 2 = 1 := by omega
            rcases this with e | e
            · exact ⟨W.read, .inl rfl, by rw [e]; rfl⟩
            · exact ⟨W.write, .inr rfl, by rw [e]; rfl⟩
          refine ⟨_, rfl, _, _, rfl, rfl, ⟨by decide, by decide⟩, _, _, rfl, rfl, (by show (0 : Int) < 2; decide), q, _, _, .str wd, rfl, rfl, SqL.of upd_same, ewd, ?_⟩
          have sq2 := sq
          refine ⟨_, rfl, _, rfl, _, _, rfl, rfl, ⟨by decide, by decide⟩, _, _, rfl, rfl, (by show (0 : Int) < 3; decide), _, _, rfl, rfl, (by show 3 ≤ sizeLine; decide), fun tp' ntp => ?_⟩
          have sT := sq2.trans (same_new (o := .tup [V.int (tn : Int), V.str wd, V.int (b + c / 11 % 3)]) ntp)
          have gT := g9.keep sT
          have x0 : 0 ≤ b + c / 11 % 3 := by have : 0 ≤ c / 11 % 3 := Int.emod_nonneg _ (by omega); omega
          exact hN _ _ ⟨tp', as, ps, hold, ((tn : Int), wd, b + c / 11 % 3), rfl, s09.trans sT, ⟨gT.eaw, gT.ego, gT.eh.up (by omega), gT.eda, gT.dds, gT.gen.rw ta tp x0 hwd, gT.ld, upd_same⟩⟩
        · cases z
      · rcases hJ with ⟨rfl, s8, g8⟩ | ⟨tp', as', ps', hold', d, rfl, s8, g8⟩
        · exact absurd rfl z
        · exact ⟨tp', as', ps', hold', d, rfl, s8.trans s9, ⟨s9 _ _ g8.eaw, s9 _ _ g8.ego, g8.eh.same s9, s9 _ _ g8.eda, g8.dds.same s9, g8.gen, g8.ld, s9 _ _ g8.tp⟩⟩
      rintro σ'' H9 ⟨tp', as', ps', hold', d, rfl, s9, g9⟩
      refine ⟨_, rfl, .inl ⟨rfl, _, SqL.of g9.eda⟩, _, rfl, da, _, _, rfl, rfl, g9.eda, small1000 (by rw [g9.dds.len, g9.ld]; omega), ?_⟩
      have TS := tsame_put (o := .lst (xs ++ [V.ref tp'])) g9.eda
      have e4 : upd H9 da (.lst (xs ++ [V.ref tp'])) tp' = some (.tup [.int d.1, .str d.2.1, .int d.2.2]) := TS _ _ g9.tp
      obtain ⟨kvs, nks, ek, er⟩ := g9.eh.ex
      refine ⟨as', ps', hold', xs ++ [.ref tp'], ds ++ [d], _, _, _, _, _, rfl, s9.put2 nda0, ⟨by rw [upd_ne n_da_aw.symm]; exact g9.eaw, by rw [upd_ne n_da_go.symm]; exact g9.ego, ⟨⟨kvs, nks, by rw [upd_ne n_da_h.symm]; exact ek, er⟩, g9.eh.pos⟩, upd_same, (g9.dds.tsame TS).snoc ⟨tp', _, _, _, rfl, e4⟩ (deedOf_ref e4), g9.gen, by rw [List.length_append, g9.ld]; rfl⟩⟩
    · rintro σ H6 ⟨as, ps, hold, xs, ds, v8, v9, v10, v11, v12, rfl, s6, g⟩
      rw [eN] at g
      exact ⟨_, rfl, k da xs ds H6 s6 nda0 g.eda g.dds (by rw [g.ld]; exact hN60) g.gen.fa⟩
end
end K
namespace L2
open PySem RC
end L2
namespace RC
open PySem L2
def NewL (H : Hp) (v : V) (ls : List Line) : Prop := ∃ c us, v = .ref c ∧ H c = some (.lst us) ∧ LinesAt H us ls
end RC
namespace RC
open PySem L2
structure CD (m n : Int) (H H2 : Hp) (r : Addr) (xs : List V) (cs : List (List Line)) (ln : Addr) (us : List V) (ls : List Line) : Prop where
  s : Same H H2
  er : H2 r = some (.lst xs)
  P : Paired (NewL H2) xs cs
  fx : ∀ c, (.ref c : V) ∈ xs → H c = none ∧ c ≠ r
  eln : H2 ln = some (.lst us)
  nln : H ln = none
  nlr : ln ≠ r
  nlx : (.ref ln : V) ∉ xs
  L : LinesAt H2 us ls
  ok : ∀ l ∈ ls, okLine m n l = true
end RC
namespace L2
open PySem
end L2
namespace RC
open PySem L2
end RC
namespace RC
open PySem
theorem Gen.cong {many : Int} {as ps : List Int} {h h' : Int → Option Int} {ds : List Deed} (g : Gen many as ps h ds) (e : ∀ n, h n = h' n) : Gen many as ps h' ds := ⟨g.bnd, g.sub, g.live, g.sa, g.sg, fun x => by rw [g.sh, e], g.fa⟩
def thrs (m : Nat) : List Int := (List.range m).map fun i : Nat => (i : Int)
theorem mem_thrs {m : Nat} {t : Int} : t ∈ thrs m ↔ 0 ≤ t ∧ t < (m : Int) := by
  unfold thrs
  rw [List.mem_map]
  constructor
  · rintro ⟨i, hi, rfl⟩
    have := List.mem_range.mp hi
    omega
  · rintro ⟨h1, h2⟩
    exact ⟨t.toNat, List.mem_range.mpr (by omega), by omega⟩
def Idl (m : Nat) (ds : List Deed) : Prop := Gen (m : Int) (thrs m) [] (fun _ => none) ds
def forksD (j : Nat) : List Deed := (List.range j).map fun i : Nat => ((0 : Int), W.fork, (1 : Int) + (i : Int))
theorem forks_gen {m : Nat} (hm : 1 ≤ m) : ∀ j, j + 1 ≤ m → Gen (m : Int) (thrs (j + 1)) [] (fun _ => none) (forksD j)
  | 0, _ => Gen.start (by omega)
  | j + 1, h => by
    have g := forks_gen hm j (by omega)
    have := g.fork (t := 0) (x := 1 + (j : Int)) (mem_thrs.mpr (by omega)) (by simp) (by omega) (by omega) (fun z => by have := mem_thrs.mp z; omega)
    have e1 : thrs (j + 1 + 1) = thrs (j + 1) ++ [1 + (j : Int)] := by
      unfold thrs
      rw [List.range_succ (n := j + 1), List.map_append]
      congr 1
      simp only [List.map_cons, List.map_nil]
      congr 1
      omega
    have e2 : forksD (j + 1) = forksD j ++ [((0 : Int), W.fork, (1 : Int) + (j : Int))] := by
      unfold forksD
      rw [List.range_succ, List.map_append]
      rfl
    rw [e1, e2]
    exact this
theorem forks_idl {m : Nat} (hm : 1 ≤ m) : Idl m (forksD (m - 1)) := by
  have := forks_gen hm (m - 1) (by omega)
  rwa [show m - 1 + 1 = m by omega] at this
theorem Gen.block {m : Int} {as : List Int} {h : Int → Option Int} {ds mid : List Deed} {t a b x y : Int} (g : Gen m as [] h ds) (ht : t ∈ as) (a0 : 0 ≤ a) (b0 : 0 ≤ b) (ne : a ≠ b) (ha : h a = none) (hb : h b = none) (hm : mid = [] ∨ ∃ z, 0 ≤ z ∧ mid = [(t, W.write, z)]) (hxy : (x = a ∧ y = b) ∨ (x = b ∧ y = a)) :
    Gen m as [] h (ds ++ ([(t, W.take, a), (t, W.take, b)] ++ (mid ++ [(t, W.give, x), (t, W.give, y)]))) := by
  have np : ¬ t ∈ ([] : List Int) := by simp
  have g1 := g.take ht np a0 ha
  have g2 := g1.take ht np b0 (by rw [if_neg (fun z => ne z.symm)]; exact hb)
  have g3 : Gen m as [] (fun n => if n = b then some t else if n = a then some t else h n) ((ds ++ [(t, W.take, a)] ++ [(t, W.take, b)]) ++ mid) := by
    rcases hm with rfl | ⟨z, z0, rfl⟩
    · rw [List.append_nil]; exact g2
    · exact g2.rw ht np z0 (.inr rfl)
  have x0 : 0 ≤ x := by rcases hxy with ⟨rfl, _⟩ | ⟨rfl, _⟩ <;> assumption
  have y0 : 0 ≤ y := by rcases hxy with ⟨_, rfl⟩ | ⟨_, rfl⟩ <;> assumption
  have g4 := g3.give ht np x0 (by
    rcases hxy with ⟨rfl, _⟩ | ⟨rfl, _⟩
    · rw [if_neg ne, if_pos rfl]
    · rw [if_pos rfl])
  have g5 := g4.give (x := y) ht np y0 (by
    rcases hxy with ⟨rfl, rfl⟩ | ⟨rfl, rfl⟩
    · rw [if_neg (fun z => ne z.symm), if_pos rfl]
    · rw [if_neg ne, if_neg ne, if_pos rfl])
  have g6 := g5.cong (h' := h) (fun n => by
    rcases hxy with ⟨rfl, rfl⟩ | ⟨rfl, rfl⟩
    · by_cases e1 : n = y
      · rw [if_pos e1, e1, hb]
      · by_cases e2 : n = x
        · rw [if_neg e1, if_pos e2, e2, ha]
        · rw [if_neg e1, if_neg e2, if_neg e1, if_neg e2]
    · by_cases e1 : n = y
      · rw [if_pos e1, e1, ha]
      · by_cases e2 : n = x
        · rw [if_neg e1, if_pos e2, e2, hb]
        · rw [if_neg e1, if_neg e2, if_neg e2, if_neg e1])
  have e : ds ++ ([(t, W.take, a), (t, W.take, b)] ++ (mid ++ [(t, W.give, x), (t, W.give, y)])) = ((ds ++ [(t, W.take, a)] ++ [(t, W.take, b)]) ++ mid) ++ [(t, W.give, x)] ++ [(t, W.give, y)] := by simp
  rw [e]
  exact g6
theorem Gen.block9 {m : Int} {as : List Int} {ds bl : List Deed} {t : Int} (g : Gen m as [] (fun _ => none) ds) (ht : t ∈ as) (hb : ∀ ds', Gen m as [] (fun n => if n = 9 then some t else none) ds' → Gen m as [] (fun n => if n = 9 then some t else none) (ds' ++ bl)) : Gen m as [] (fun _ => none) (ds ++ ([(t, W.take, 9)] ++ bl ++ [(t, W.give, 9)])) := by
  have np : ¬ t ∈ ([] : List Int) := by simp
  have g1 := g.take (x := 9) ht np (by decide) rfl
  have g2 := hb _ g1
  have g3 := (g2.give (x := 9) ht np (by decide) (by rw [if_pos rfl])).cong (h' := fun _ => none) (fun n => by
    by_cases e : n = 9
    · rw [if_pos e]
    · rw [if_neg e, if_neg e])
  have e : ds ++ ([(t, W.take, 9)] ++ bl ++ [(t, W.give, 9)]) = (ds ++ [(t, W.take, 9)] ++ bl) ++ [(t, W.give, 9)] := by simp
  rw [e]
  exact g3
end RC
namespace L2
open PySem
theorem setComp_range2 {lo hi : Int} {fr : List Nat} {ta : TA} {tt : TT} {te : TE} {σ : St} {H : Hp} {j : Nat} {De : Ends} {rest : TS} (Pv : Addr → Nat → List V → Hp → Prop) (h : ∀ Q' : List V → Hp → Prop, Q' [.int lo, .int hi] H → ta σ H Q') (hb : -(2 ^ 62) ≤ lo ∧ lo < 2 ^ 62 ∧ -(2 ^ 62) ≤ hi ∧ hi < 2 ^ 62) (hn : (hi - lo).toNat ≤ 1000) (h0 : ∀ D, H D = none → Pv D 0 [] (upd H D (.lst [])))
    (step : ∀ D, H D = none → ∀ i ys H' (N : St → Hp → Prop), i < (hi - lo).toNat → Pv D i ys H' → H' D = some (.lst ys) → ys.length < sizeLine →
      (∀ v H5, Pv D (i + 1) (ys ++ [v]) (upd H5 D (.lst (ys ++ [v]))) → N (some (.int (lo + i)) :: frV fr σ) (upd H5 D (.lst (ys ++ [v])))) → (∀ H5, H5 D = some (.lst ys) → Pv D (i + 1) ys H5 → N (some (.int (lo + i)) :: frV fr σ) H5) →
      tt (some (.int (lo + i)) :: frV fr σ) H' fun b H4 => if b = true then te (some (.int (lo + i)) :: frV fr σ) H4 fun v H5 => ∃ ys, H5 D = some (.lst ys) ∧ ys.length < sizeLine ∧ N (some (.int (lo + i)) :: frV fr σ) (upd H5 D (.lst (ys ++ [v]))) else N (some (.int (lo + i)) :: frV fr σ) H4)
    (fin : ∀ D, H D = none → ∀ ys H', Pv D (hi - lo).toNat ys H' → H' D = some (.lst ys) → rest De (σ.set j (some (.ref D))) H') : tSeq (tAsg (tComp 1 fr (iRng2 ta) (gName 0) tt te) (gName j)) rest De σ H := by
  show tComp 1 fr (iRng2 ta) (gName 0) tt te σ H fun x H1 => rest De (σ.set j (some x)) H1
  exact h _ ⟨lo, hi, rfl, hb, fun D hD => comp_range (lo := lo) (n := (hi - lo).toNat) (Q := fun x H1 => rest De (σ.set j (some x)) H1) (Pv D) (small1000 hn) (h0 D hD) (step D hD) (fin D hD)⟩
end L2
namespace K
open PySem L2 RC
abbrev tupA (d : Deed) : HO := .tup [.int d.1, .str d.2.1, .int d.2.2]
theorem deeds1 {H : Hp} {t1 : Addr} {d1 : Deed} (e1 : H t1 = some (tupA d1)) : Deeds H [.ref t1] [d1] := Deeds.nil.snoc ⟨_, _, _, _, rfl, e1⟩ (deedOf_ref e1)
theorem deeds2 {H : Hp} {t1 t2 : Addr} {d1 d2 : Deed} (e1 : H t1 = some (tupA d1)) (e2 : H t2 = some (tupA d2)) : Deeds H [.ref t1, .ref t2] [d1, d2] := (deeds1 e1).snoc ⟨_, _, _, _, rfl, e2⟩ (deedOf_ref e2)
def spBlocks (K : PySem.W.Frag) : Sp := fun vs H Q _ => ∃ (a : Addr) (mn : Nat) (ns : List Int), vs = [.ref a, .int (mn : Int)] ∧ SqL K H a (ns.map V.int) ∧ ns.length ≤ 63 ∧ 1 ≤ mn ∧ mn ≤ 6 ∧
  ∀ (l : Addr) (xs : List V) (ds : List Deed) (H' : Hp), Same H H' → H l = none → H' l = some (.lst xs) → Deeds H' xs ds → ds.length ≤ 60 → Fault (mn : Int) ds none → Q (.ref l) H'
abbrev nBlk : List Str := ["_law_script", "_law_many", "_law_one", "_law_deeds_here", "_law_k", "_law_cell_here", "_law_thread", "_law_other", "_law_row"]
theorem ndOn : (["_law_one"] : List Str).Nodup := by decide +kernel
section
variable {P : Program} {w : World} {K : PySem.W.Frag} {mg : Str → Option Value} {base : Heap}
theorem scBlk : FnScope nBlk ["_law_script", "_law_many"] (defScope s__law_blocks) := ⟨rfl, rfl, rfl, by decide +kernel, rfl, by decide +kernel, by decide +kernel⟩
theorem ok_blocks {f C aW aT fC : Addr} {fd fdC : FuncData} (F : Fun K "_law_blocks" "_law_blocks" s__law_blocks f fd) (T : Txt K mg C aW aT) (zm : mg "min" = none)
    (GC : FnOk P w K mg base CX0 1 fC fdC ["_law_script", "_law_k"] (spCell K)) (cC : Cal K mg "_law_cell" fC fdC ["_law_script", "_law_k"]) : FnOk P w K mg base CX0 2 f fd ["_law_script", "_law_many"] (spBlocks K) := by
  refine F.ok scBlk (fun vs H Q E h => ?_) (fun cdv A outer s H vs Q E hr h => ?_)
  · obtain ⟨a, mn, ns, rfl, _⟩ := h
    rfl
  · obtain ⟨a, mn, ns, rfl, hS, hlen, m1, m6, k⟩ := h
    have nd := scBlk.nd
    refine ⟨_, pss_cons (ps_setComp (i := 3) (N := ["_law_one"]) (nt := 1) (fr := []) (te := tTup (tCons (tC (.int 0)) (tCons (tC (.str "fork")) (tCons (tVar 0) tNil)))) nd rfl (Or.inl rfl) rfl
          (.of (XN := nBlk) (osc := defScope s__law_blocks) rfl rfl rfl (by decide +kernel) (by decide +kernel) (by decide +kernel) rfl (by decide +kernel)) (pi_range2 rfl T.rng (pa_cons pe_int (pa_cons (pv 1) pa_nil)))
          (fun _ _ _ _ _ _ => ⟨pg_name (i := 0) ndOn rfl (Or.inl rfl), pif_nil, pe_tup (pa_cons pe_int (pa_cons pe_str (pa_cons (pv 0) pa_nil)))⟩))
      (pss_cons (ps_for PassesOwn.never rfl (pi_range2 rfl T.rng (pa_cons pe_int (pa_cons (pe_callB (call_min2 rfl) (by rfl) zm bMin (pa_cons (pe_callB call_len_seq (by rfl) T.len PySem.boot_len (pa_cons (pv 0) pa_nil)) (pa_cons pe_int pa_nil))) pa_nil))) (pg_name (i := 4) nd rfl (Or.inl rfl))
        (pss_cons (ps_set (i := 5) nd rfl (Or.inl rfl) (pe_call GC hr rfl cC.mgf cC.kp cC.b .nil pass0 (pa_cons (pv 0) (pa_cons (pv 4) pa_nil))))
        (pss_cons (ps_set (i := 6) nd rfl (Or.inl rfl) (pe_op op_mod (pv 5) (pv 1)))
        (pss_cons (ps_set (i := 2) nd rfl (Or.inl rfl) (pe_op op_mod (pe_op op_fdiv (pv 5) pe_int) pe_int))
        (pss_cons (ps_set (i := 7) nd rfl (Or.inl rfl) (pe_op op_mod (pe_op op_add (pe_op op_add (pv 2) pe_int) (pe_op op_mod (pe_op op_fdiv (pv 5) pe_int) pe_int)) pe_int))
        (pss_cons (ps_set (i := 8) nd rfl (Or.inl rfl) (pe_lst (pa_cons (pe_tup (pa_cons (pv 6) (pa_cons pe_str (pa_cons (pv 2) pa_nil)))) (pa_cons (pe_tup (pa_cons (pv 6) (pa_cons pe_str (pa_cons (pv 7) pa_nil)))) pa_nil))))
        (pss_cons (ps_if (pt_cmpR op_eq (pe_op op_mod (pe_op op_fdiv (pv 5) pe_int) pe_int) pe_int (nomark _)) (pss_one (ps_expr (pe_bm PySem.F.plainAttrs_list PySem.F.slot_list_append PySem.F.type_list_append mt_append (pv 8) (pa_cons (pe_tup (pa_cons (pv 6) (pa_cons pe_str (pa_cons (pe_op op_mod (pe_op op_fdiv (pv 5) pe_int) pe_int) pa_nil)))) pa_nil)))) pss_nil)
        (pss_cons (ps_set (i := 8) nd rfl (Or.inl rfl) (pe_op op_cat (pv 8) (pe_lst (pa_cons (pe_tup (pa_cons (pv 6) (pa_cons pe_str (pa_cons (pv 2) pa_nil)))) (pa_cons (pe_tup (pa_cons (pv 6) (pa_cons pe_str (pa_cons (pv 7) pa_nil)))) pa_nil)))))
        (pss_cons (ps_if (pt_cmpR op_eq (pe_op op_mod (pe_op op_fdiv (pv 5) pe_int) pe_int) pe_int (nomark _)) (pss_one (ps_set (i := 8) nd rfl (Or.inl rfl) (pe_op op_cat (pe_op op_cat (pe_lst (pa_cons (pe_tup (pa_cons (pv 6) (pa_cons pe_str (pa_cons pe_int pa_nil)))) pa_nil)) (pv 8)) (pe_lst (pa_cons (pe_tup (pa_cons (pv 6) (pa_cons pe_str (pa_cons pe_int pa_nil)))) pa_nil))))) pss_nil)
        (pss_one (ps_if (pt_cmpR op_le (pe_op op_add (pe_callB call_len_seq (by rfl) T.len PySem.boot_len (pa_cons (pv 3) pa_nil)) (pe_callB call_len_seq (by rfl) T.len PySem.boot_len (pa_cons (pv 8) pa_nil))) pe_int (nomark _)) (pss_one (ps_set (i := 3) nd rfl (Or.inl rfl) (pe_op op_cat (pv 3) (pv 8)))) pss_nil)))))))))))
      (pss_one (ps_ret (pv 3)))), ?_⟩
    refine setComp_range2 (lo := 1) (hi := (mn : Int)) (fun D j ys H' => Same H H' ∧ Deeds H' ys (forksD j)) (fun Q' q => ⟨_, rfl, q⟩) ⟨by decide, by decide, by omega, by omega⟩ (by omega) (fun D nD => ⟨same_new nD, Deeds.nil⟩) (fun D nD j ys H' N hj ⟨s', P'⟩ hd hys kT kF => ?_) (fun l0 nl0 xs0 H1 ⟨s1, d1⟩ el0 => ?_)
    · dsimp only [tYes]
      rw [if_pos rfl]
      refine ⟨_, rfl, (by show 3 ≤ sizeLine; decide), fun t nt => ⟨ys, same_new nt _ _ hd, hys, kT (.ref t) _ ⟨(s'.trans (same_new nt)).put2 nD, ?_⟩⟩⟩
      have et : upd H' t (tupA (0, W.fork, 1 + (j : Int))) t = some (tupA (0, W.fork, 1 + (j : Int))) := upd_same
      have P5 : Deeds (upd H' t (tupA (0, W.fork, 1 + (j : Int)))) ys (forksD j) := P'.same (same_new nt)
      have ed : upd H' t (tupA (0, W.fork, 1 + (j : Int))) D = some (.lst ys) := same_new nt _ _ hd
      show Deeds (upd (upd H' t (tupA (0, W.fork, 1 + (j : Int)))) D _) _ _
      generalize upd H' t (tupA (0, W.fork, 1 + (j : Int))) = H5 at et P5 ed
      have ts : TSame H5 (upd H5 D (.lst (ys ++ [.ref t]))) := tsame_lst ed
      have e2 : forksD (j + 1) = forksD j ++ [((0 : Int), W.fork, (1 : Int) + (j : Int))] := by
        unfold forksD
        rw [List.range_succ, List.map_append]
        rfl
      rw [e2]
      exact (P5.tsame ts).snoc ⟨t, _, _, _, rfl, ts _ _ et⟩ (deedOf_ref (ts _ _ et))
    dsimp only [gName]
    have id0 := forks_idl m1
    rw [show ((mn : Int) - 1).toNat = mn - 1 by omega] at d1
    have lf : (forksD (mn - 1)).length ≤ 60 := by unfold forksD; rw [List.length_map, List.length_range]; omega
    have lz : ((ns.map V.int).length : Int) ≤ 63 := by rw [List.length_map]; omega
    refine ⟨_, rfl, a, _, rfl, .inl (s1.seq hS), _, _, rfl, _, _, rfl, ⟨by omega, by omega, by split <;> omega, by split <;> omega⟩, for_range (lo := 1) (n := ((if (14 : Int) < ((ns.map V.int).length : Int) then (14 : Int) else ((ns.map V.int).length : Int)) - 1).toNat)
      (fun i σ HC => ∃ (l : Addr) (xs : List V) (ds : List Deed) (v2 v4 v5 v6 v7 v8 : Option V), σ = [some (.ref a), some (.int (mn : Int)), v2, some (.ref l), v4, v5, v6, v7, v8] ∧ Same H HC ∧ H l = none ∧ HC l = some (.lst xs) ∧ Deeds HC xs ds ∧ Idl mn ds ∧ ds.length ≤ 60)
      ⟨l0, xs0, _, _, _, _, _, _, _, rfl, s1, nl0, el0, d1, id0, lf⟩ ?_ (fun σ HC ⟨l, xs, ds, _, _, _, _, _, _, e, sC, nl, el, hd, hid, h60⟩ => by subst e; exact ⟨_, rfl, k l xs ds HC sC nl el hd h60 hid.fa⟩)⟩
    rintro i σ HC hi ⟨l, xs, ds, v2, v4, v5, v6, v7, v8, rfl, sC, nl, el, hd, hid, h60⟩
    dsimp only [gName]
    refine ⟨_, rfl, _, rfl, a, 1 + (i : Int), ns, rfl, sC.seq hS, by omega, fun c hc => ?_⟩
    dsimp only [gName]
    refine ⟨_, rfl, _, rfl, _, _, rfl, rfl, (by omega), ?_⟩
    dsimp only [gName]
    have ht : c % (mn : Int) ∈ thrs mn := mem_thrs.mpr ⟨Int.emod_nonneg _ (by omega), Int.emod_lt_of_pos _ (by omega)⟩
    generalize c % (mn : Int) = t at ht
    refine ⟨_, rfl, _, _, rfl, rfl, ⟨by decide, by decide⟩, _, _, rfl, rfl, (by show (0 : Int) < 4; decide), ?_⟩
    dsimp only [gName]
    obtain ⟨o, eo, o0, o3⟩ : ∃ o : Int, c / 6 % 4 = o ∧ 0 ≤ o ∧ o < 4 := ⟨_, rfl, by omega, by omega⟩
    rw [eo]
    refine ⟨_, rfl, _, _, rfl, rfl, _, rfl, _, _, rfl, rfl, ⟨by decide, by decide⟩, _, _, rfl, rfl, (by show (0 : Int) < 3; decide), _, _, rfl, rfl, _, _, rfl, rfl, (by show (0 : Int) < 4; decide), ?_⟩
    dsimp only [gName]
    obtain ⟨b, eb, b0, b3, nob⟩ : ∃ b : Int, (o + 1 + c / 24 % 3) % 4 = b ∧ 0 ≤ b ∧ b < 4 ∧ o ≠ b := ⟨_, rfl, by omega, by omega, by omega⟩
    rw [eb]
    clear eo eb
    refine ⟨_, rfl, _, rfl, (by show 3 ≤ sizeLine; decide), fun t1 nt1 => ⟨_, rfl, _, rfl, (by show 3 ≤ sizeLine; decide), fun t2 nt2 => ⟨(by show 2 ≤ sizeLine; decide), fun r1 nr1 => ?_⟩⟩⟩
    dsimp only [gName]
    have u1 : Same HC (upd HC t1 (tupA (t, W.take, o))) := same_new nt1
    have e1 : upd HC t1 (tupA (t, W.take, o)) t1 = some (tupA (t, W.take, o)) := upd_same
    change tSeq _ _ _ _ (upd (upd (upd HC t1 (tupA (t, W.take, o))) t2 (tupA (t, W.take, b))) r1 _)
    change upd HC t1 (tupA (t, W.take, o)) t2 = none at nt2
    change upd (upd HC t1 (tupA (t, W.take, o))) t2 (tupA (t, W.take, b)) r1 = none at nr1
    generalize upd HC t1 (tupA (t, W.take, o)) = HD at u1 e1 nt2 nr1
    have u2 : Same HD (upd HD t2 (tupA (t, W.take, b))) := same_new nt2
    have e2 : upd HD t2 (tupA (t, W.take, b)) t2 = some (tupA (t, W.take, b)) := upd_same
    have e1' := u2 _ _ e1
    generalize upd HD t2 (tupA (t, W.take, b)) = HE at u2 e2 e1' nr1
    have u3 : Same HE (upd HE r1 (.lst [V.ref t1, V.ref t2])) := same_new nr1
    have er1 : upd HE r1 (.lst [V.ref t1, V.ref t2]) r1 = some (.lst [V.ref t1, V.ref t2]) := upd_same
    have dr1 : Deeds (upd HE r1 (.lst [V.ref t1, V.ref t2])) [.ref t1, .ref t2] [(t, W.take, o), (t, W.take, b)] := (deeds2 e1' e2).same u3
    have nr0 : H r1 = none := (sC.trans (u1.trans u2)).free nr1
    have sF := sC.trans (u1.trans (u2.trans u3))
    have elF := (u1.trans (u2.trans u3)) _ _ el
    have hdF := hd.same (u1.trans (u2.trans u3))
    have nlr : l ≠ r1 := ne_of_none ((u1.trans u2) _ _ el) nr1
    generalize upd HE r1 (.lst [V.ref t1, V.ref t2]) = HF at er1 dr1 sF elF hdF
    clear u1 u2 u3 e1 e2 e1' nt1 nt2 nr1
    refine PuT.ifsJ (c := c / 72 % 3 = 1) (fun σ' H' => σ' = [some (.ref a), some (.int (mn : Int)), some (.int o), some (.ref l), some (.int (1 + (i : Int))), some (.int c), some (.int t), some (.int b), some (.ref r1)] ∧ Same H H' ∧ H' l = some (.lst xs) ∧ Deeds H' xs ds ∧ ∃ (ys : List V) (mid : List Deed), H' r1 = some (.lst ys) ∧ Deeds H' ys ([(t, W.take, o), (t, W.take, b)] ++ mid) ∧ mid.length ≤ 1 ∧ (mid = [] ∨ ∃ z, 0 ≤ z ∧ mid = [(t, W.write, z)]))
      (fun Qt q => ⟨_, rfl, _, _, rfl, rfl, ⟨by decide, by decide⟩, _, _, rfl, rfl, (by show (0 : Int) < 3; decide), rfl, _, rfl, by rw [dec_int']; exact q⟩) (fun z N hN => ?_) (fun z => ⟨rfl, sF, elF, hdF, _, [], er1, dr1, Nat.zero_le _, .inl rfl⟩) ?_
    · refine ⟨_, rfl, .inl ⟨rfl, _, SqL.of er1⟩, _, rfl, _, rfl, _, _, rfl, rfl, ⟨by decide, by decide⟩, _, _, rfl, rfl, (by show (0 : Int) < 2; decide), (by show 3 ≤ sizeLine; decide), fun t3 nt3 => ?_⟩
      have u4 : Same HF (upd HF t3 (tupA (t, W.write, c / 216 % 2))) := same_new nt3
      have e4 : upd HF t3 (tupA (t, W.write, c / 216 % 2)) t3 = some (tupA (t, W.write, c / 216 % 2)) := upd_same
      change ∃ _, _
      refine ⟨r1, _, _, rfl, rfl, u4 _ _ er1, (by show 2 < sizeLine; decide), ?_⟩
      have ts : TSame (upd HF t3 (tupA (t, W.write, c / 216 % 2))) (upd (upd HF t3 (tupA (t, W.write, c / 216 % 2))) r1 (.lst ([V.ref t1, V.ref t2] ++ [V.ref t3]))) := tsame_lst (u4 _ _ er1)
      refine hN _ _ ⟨rfl, (sF.trans u4).put2 nr0, by rw [upd_ne nlr]; exact u4 _ _ elF, (hdF.same u4).tsame ts, _, [(t, W.write, c / 216 % 2)], upd_same, ?_, Nat.le_refl _, .inr ⟨_, by omega, rfl⟩⟩
      exact ((dr1.same u4).tsame ts).snoc ⟨t3, _, _, _, rfl, ts _ _ e4⟩ (deedOf_ref (ts _ _ e4))
    rintro σ' HG ⟨rfl, sG, elG, hdG, ys, mid, er, dr, lm, hmid⟩
    have lys := dr.len
    rw [List.length_append] at lys
    have lys' : ys.length ≤ 3 := by rw [lys]; show 2 + mid.length ≤ 3; omega
    refine ⟨_, rfl, _, rfl, _, rfl, (by show 3 ≤ sizeLine; decide), fun t3 nt3 => ⟨_, rfl, _, rfl, (by show 3 ≤ sizeLine; decide), fun t4 nt4 => ⟨(by show 2 ≤ sizeLine; decide), fun r2 nr2 => ?_⟩⟩⟩
    have u1 : Same HG (upd HG t3 (tupA (t, W.give, o))) := same_new nt3
    have e1 : upd HG t3 (tupA (t, W.give, o)) t3 = some (tupA (t, W.give, o)) := upd_same
    change upd HG t3 (tupA (t, W.give, o)) t4 = none at nt4
    change upd (upd HG t3 (tupA (t, W.give, o))) t4 (tupA (t, W.give, b)) r2 = none at nr2
    change rCat _ _ (upd (upd (upd HG t3 (tupA (t, W.give, o))) t4 (tupA (t, W.give, b))) r2 (.lst [V.ref t3, V.ref t4])) _
    generalize upd HG t3 (tupA (t, W.give, o)) = HD at u1 e1 nt4 nr2
    have u2 : Same HD (upd HD t4 (tupA (t, W.give, b))) := same_new nt4
    have e2 : upd HD t4 (tupA (t, W.give, b)) t4 = some (tupA (t, W.give, b)) := upd_same
    have e1' := u2 _ _ e1
    generalize upd HD t4 (tupA (t, W.give, b)) = HE at u2 e2 e1' nr2
    have u3 : Same HE (upd HE r2 (.lst [V.ref t3, V.ref t4])) := same_new nr2
    have er2 : upd HE r2 (.lst [V.ref t3, V.ref t4]) r2 = some (.lst [V.ref t3, V.ref t4]) := upd_same
    have dr2 : Deeds (upd HE r2 (.lst [V.ref t3, V.ref t4])) [.ref t3, .ref t4] [(t, W.give, o), (t, W.give, b)] := (deeds2 e1' e2).same u3
    have uu := u1.trans (u2.trans u3)
    generalize upd HE r2 (.lst [V.ref t3, V.ref t4]) = HK at er2 dr2 uu
    clear u1 u2 u3 e1 e2 e1' nt3 nt4 nr2
    refine ⟨r1, r2, _, _, rfl, rfl, uu _ _ er, er2, Nat.le_of_lt (small1000 (by simp only [List.length_cons, List.length_nil]; omega)), fun r3 nr3 => ?_⟩
    dsimp only [gName]
    have u4 := same_new (o := .lst (ys ++ [V.ref t3, V.ref t4])) nr3
    have er3 : upd HK r3 (.lst (ys ++ [V.ref t3, V.ref t4])) r3 = some (.lst (ys ++ [V.ref t3, V.ref t4])) := upd_same
    have dr3 : Deeds (upd HK r3 (.lst (ys ++ [V.ref t3, V.ref t4]))) (ys ++ [V.ref t3, V.ref t4]) ([(t, W.take, o), (t, W.take, b)] ++ (mid ++ [(t, W.give, o), (t, W.give, b)])) := by
      rw [← List.append_assoc]
      exact ((dr.same uu).append dr2).same u4
    have sL := sG.trans (uu.trans u4)
    have elL := (uu.trans u4) _ _ elG
    have hdL := hdG.same (uu.trans u4)
    generalize upd HK r3 (.lst (ys ++ [V.ref t3, V.ref t4])) = HL at er3 dr3 sL elL hdL
    clear u4 uu nr3 er2 dr2 er dr sG elG hdG
    have hblk : ∀ (h : Int → Option Int) ds', h o = none → h b = none → Gen (mn : Int) (thrs mn) [] h ds' → Gen (mn : Int) (thrs mn) [] h (ds' ++ ([(t, W.take, o), (t, W.take, b)] ++ (mid ++ [(t, W.give, o), (t, W.give, b)]))) := fun h ds' h1 h2 g => g.block ht o0 b0 nob h1 h2 hmid (.inl ⟨rfl, rfl⟩)
    have lbl : ([(t, W.take, o), (t, W.take, b)] ++ (mid ++ [(t, W.give, o), (t, W.give, b)])).length ≤ 5 := by
      simp only [List.length_append, List.length_cons, List.length_nil]
      omega
    generalize ([(t, W.take, o), (t, W.take, b)] ++ (mid ++ [(t, W.give, o), (t, W.give, b)]) : List Deed) = bl at dr3 hblk lbl
    generalize ys ++ [V.ref t3, V.ref t4] = zs at er3 dr3
    have lzs := dr3.len
    refine PuT.ifsJ (c := c / 72 % 3 = 2) (fun σ' H' => ∃ (r4 : Addr) (ws : List V) (bw : List Deed), σ' = [some (.ref a), some (.int (mn : Int)), some (.int o), some (.ref l), some (.int (1 + (i : Int))), some (.int c), some (.int t), some (.int b), some (.ref r4)] ∧ Same H H' ∧ H' l = some (.lst xs) ∧ Deeds H' xs ds ∧ H' r4 = some (.lst ws) ∧ Deeds H' ws bw ∧ bw.length ≤ 7 ∧ Idl mn (ds ++ bw))
      (fun Qt q => ⟨_, rfl, _, _, rfl, rfl, ⟨by decide, by decide⟩, _, _, rfl, rfl, (by show (0 : Int) < 3; decide), rfl, _, rfl, by rw [dec_int']; exact q⟩) (fun z N hN => ?_) (fun z => ⟨r3, zs, bl, rfl, sL, elL, hdL, er3, dr3, by omega, hblk _ _ rfl rfl hid⟩) ?_
    · refine ⟨_, rfl, (by show 3 ≤ sizeLine; decide), fun t5 nt5 => ⟨(by show 1 ≤ sizeLine; decide), fun r5 nr5 => ⟨_, rfl, ?_⟩⟩⟩
      have v1 : Same HL (upd HL t5 (tupA (t, W.take, 9))) := same_new nt5
      have f1 : upd HL t5 (tupA (t, W.take, 9)) t5 = some (tupA (t, W.take, 9)) := upd_same
      change upd HL t5 (tupA (t, W.take, 9)) r5 = none at nr5
      change rCat _ _ (upd (upd HL t5 (tupA (t, W.take, 9))) r5 (.lst [V.ref t5])) _
      generalize upd HL t5 (tupA (t, W.take, 9)) = HM at v1 f1 nr5
      have v2 : Same HM (upd HM r5 (.lst [V.ref t5])) := same_new nr5
      have er5 : upd HM r5 (.lst [V.ref t5]) r5 = some (.lst [V.ref t5]) := upd_same
      have f1' := v2 _ _ f1
      have v12 := v1.trans v2
      generalize upd HM r5 (.lst [V.ref t5]) = HN at er5 f1' v12
      refine ⟨r5, r3, _, _, rfl, rfl, er5, v12 _ _ er3, Nat.le_of_lt (small1000 (by simp only [List.length_cons, List.length_nil]; omega)), fun r6 nr6 => ?_⟩
      have v3 := same_new (o := .lst ([V.ref t5] ++ zs)) nr6
      have er6 : upd HN r6 (.lst ([V.ref t5] ++ zs)) r6 = some (.lst ([V.ref t5] ++ zs)) := upd_same
      have f1'' := v3 _ _ f1'
      have v13 := v12.trans v3
      generalize upd HN r6 (.lst ([V.ref t5] ++ zs)) = HO' at er6 f1'' v13
      refine ⟨_, rfl, (by show 3 ≤ sizeLine; decide), fun t6 nt6 => ⟨(by show 1 ≤ sizeLine; decide), fun r7 nr7 => ?_⟩⟩
      have w1 : Same HO' (upd HO' t6 (tupA (t, W.give, 9))) := same_new nt6
      have g1 : upd HO' t6 (tupA (t, W.give, 9)) t6 = some (tupA (t, W.give, 9)) := upd_same
      change upd HO' t6 (tupA (t, W.give, 9)) r7 = none at nr7
      change rCat _ _ (upd (upd HO' t6 (tupA (t, W.give, 9))) r7 (.lst [V.ref t6])) _
      generalize upd HO' t6 (tupA (t, W.give, 9)) = HP' at w1 g1 nr7
      have w2 : Same HP' (upd HP' r7 (.lst [V.ref t6])) := same_new nr7
      have er7 : upd HP' r7 (.lst [V.ref t6]) r7 = some (.lst [V.ref t6]) := upd_same
      have g1' := w2 _ _ g1
      have w12 := w1.trans w2
      generalize upd HP' r7 (.lst [V.ref t6]) = HQ at er7 g1' w12
      refine ⟨r6, r7, _, _, rfl, rfl, w12 _ _ er6, er7, Nat.le_of_lt (small1000 (by simp only [List.length_append, List.length_cons, List.length_nil]; omega)), fun r8 nr8 => ?_⟩
      have w3 := same_new (o := .lst ([V.ref t5] ++ zs ++ [V.ref t6])) nr8
      have all := v13.trans (w12.trans w3)
      refine hN _ _ ⟨r8, _, [(t, W.take, 9)] ++ bl ++ [(t, W.give, 9)], rfl, sL.trans all, all _ _ elL, hdL.same all, upd_same, ?_, ?_, ?_⟩
      · exact ((deeds1 ((w12.trans w3) _ _ f1'')).append (dr3.same all)).append (deeds1 (w3 _ _ g1'))
      · simp only [List.length_append, List.length_cons, List.length_nil]
        omega
      · exact Gen.block9 hid ht (fun ds' g => hblk _ ds' (by rw [if_neg (by omega)]) (by rw [if_neg (by omega)]) g)
    rintro σ' HR ⟨r4, ws, bw, rfl, sR, elR, hdR, er4, dr4, lbw, hidR⟩
    have lxs := hdR.len
    have lws := dr4.len
    refine PuT.if1 (c := ds.length + bw.length ≤ 60) (fun Qt q => ⟨_, rfl, l, _, rfl, .inl (SqL.of elR), _, rfl, r4, _, rfl, .inl (SqL.of er4), _, _, rfl, rfl, _, _, rfl, rfl, _, rfl, by
        have : decide (((xs.length : Nat) : Int) + ((ws.length : Nat) : Int) ≤ 60) = decide (ds.length + bw.length ≤ 60) := by rw [decide_eq_decide]; omega
        rw [this]
        exact q⟩) (fun z => ?_) (fun z => ⟨l, xs, ds, _, _, _, _, _, _, rfl, sR, nl, elR, hdR, hid, h60⟩)
    refine ⟨_, rfl, _, rfl, l, r4, _, _, rfl, rfl, elR, er4, Nat.le_of_lt (small1000 (by omega)), fun l9 nl9 => ?_⟩
    dsimp only [gName]
    have x1 := same_new (o := .lst (xs ++ ws)) nl9
    exact ⟨l9, _, ds ++ bw, _, _, _, _, _, _, rfl, sR.trans x1, sR.free nl9, upd_same, (hdR.append dr4).same x1, hidR, by rw [List.length_append]; exact z⟩
end
end K
namespace RC
open PySem L2
def own (t : Nat) (d : Deed) : Bool := decide (d.1 = (t : Int))
def linesT (ds : List Deed) (t : Nat) : List Deed := ds.filter (own t)
theorem holds_own (t : Nat) (ds : List Deed) : holds ds (t : Int) = holds (ds.filter (own t)) (t : Int) := by
  refine snoc_ind2 (P := fun ds => holds ds (t : Int) = holds (ds.filter (own t)) (t : Int)) rfl (fun l a ih => ?_) ds
  rw [holds_snoc, List.filter_append]
  by_cases e : a.1 = (t : Int)
  · rw [show List.filter (own t) [a] = [a] by simp [own, e], holds_snoc]
    unfold hstep
    rw [ih]
  · rw [show List.filter (own t) [a] = [] by simp [own, e], List.append_nil, ← ih]
    unfold hstep
    rw [if_neg (fun z => e z.symm)]
theorem place_of (t : Nat) : ∀ (ds : List Deed) (k : Nat) (d : Deed), (linesT ds t)[k]? = some d → ∃ p, ds[p]? = some d ∧ (ds.take p).filter (own t) = (linesT ds t).take k := by
  intro ds
  induction ds with
  | nil => intro k d h; simp [linesT] at h
  | cons a l ih =>
    intro k d h
    unfold linesT at h ih ⊢
    by_cases e : own t a = true
    · rw [List.filter_cons_of_pos e] at h ⊢
      cases k with
      | zero =>
        refine ⟨0, h, rfl⟩
      | succ k =>
        obtain ⟨p, h1, h2⟩ := ih k d (by simpa using h)
        refine ⟨p + 1, by simpa using h1, ?_⟩
        rw [List.take_succ_cons, List.filter_cons_of_pos e, h2, List.take_succ_cons]
    · rw [List.filter_cons_of_neg e] at h ⊢
      obtain ⟨p, h1, h2⟩ := ih k d h
      refine ⟨p + 1, by simpa using h1, ?_⟩
      rw [List.take_succ_cons, List.filter_cons_of_neg e, h2]
structure RunI (mn : Nat) (ds : List Deed) (ats : Nat → Nat) (hold : Int → Option Int) : Prop where
  mem : ∀ t, t < mn → ∀ x, hold x = some (t : Int) ↔ x ∈ holds ((linesT ds t).take (ats t)) (t : Int)
  dom : ∀ x u, hold x = some u → ∃ t : Nat, t < mn ∧ u = (t : Int)
theorem RunI.start {mn : Nat} {ds : List Deed} : RunI mn ds (fun _ => 0) (fun _ => none) := by
  refine ⟨fun t ht x => ?_, fun x u h => (by cases h)⟩
  rw [List.take_zero]
  constructor
  · intro h; cases h
  · intro h; cases h
def bump (ats : Nat → Nat) (t : Nat) : Nat → Nat := fun u => if u = t then ats t + 1 else ats u
theorem take_one {l : List Deed} {k : Nat} {d : Deed} (h : l[k]? = some d) : l.take (k + 1) = l.take k ++ [d] := take_snoc h
section
variable {mn : Nat} {ds : List Deed} {ats : Nat → Nat} {hold : Int → Option Int} {t : Nat} {d : Deed}
theorem own_fst (h : (linesT ds t)[ats t]? = some d) : d.1 = (t : Int) := by
  have := (List.mem_filter.mp (List.mem_of_getElem? h)).2
  exact of_decide_eq_true this
theorem RunI.take (R : RunI mn ds ats hold) (ht : t < mn) (h : (linesT ds t)[ats t]? = some d) (hw : d.2.1 = W.take) (hf : hold d.2.2 = none) : RunI mn ds (bump ats t) (fun x => if x = d.2.2 then some (t : Int) else hold x) := by
  have h1 := own_fst h
  refine ⟨fun u hu x => ?_, fun x u e => ?_⟩
  · by_cases eu : u = t
    · subst eu
      rw [show bump ats u u = ats u + 1 by unfold bump; rw [if_pos rfl], take_one h, holds_snoc]
      unfold hstep
      rw [if_pos h1.symm, if_pos hw, List.mem_append, List.mem_singleton]
      by_cases ex : x = d.2.2
      · rw [if_pos ex]; exact ⟨fun _ => .inr ex, fun _ => rfl⟩
      · rw [if_neg ex, R.mem u hu x]; exact ⟨fun z => .inl z, fun z => z.resolve_right ex⟩
    · rw [show bump ats t u = ats u by unfold bump; rw [if_neg eu]]
      by_cases ex : x = d.2.2
      · rw [if_pos ex]
        constructor
        · intro z
          have := Option.some.inj z
          omega
        · intro z
          have := (R.mem u hu x).mpr z
          rw [ex, hf] at this
          cases this
      · rw [if_neg ex]; exact R.mem u hu x
  · by_cases ex : x = d.2.2
    · rw [if_pos ex] at e; exact ⟨t, ht, (Option.some.inj e).symm⟩
    · rw [if_neg ex] at e; exact R.dom x u e
theorem RunI.give (R : RunI mn ds ats hold) (ht : t < mn) (h : (linesT ds t)[ats t]? = some d) (hw : d.2.1 = W.give) (hg : hold d.2.2 = some (t : Int)) : RunI mn ds (bump ats t) (fun x => if x = d.2.2 then none else hold x) := by
  have h1 := own_fst h
  have nt : ¬ d.2.1 = W.take := by rw [hw]; decide +kernel
  refine ⟨fun u hu x => ?_, fun x u e => ?_⟩
  · by_cases eu : u = t
    · subst eu
      rw [show bump ats u u = ats u + 1 by unfold bump; rw [if_pos rfl], take_one h, holds_snoc]
      unfold hstep
      rw [if_pos h1.symm, if_neg nt, if_pos hw, List.mem_filter]
      by_cases ex : x = d.2.2
      · rw [if_pos ex]
        constructor
        · intro z; cases z
        · intro z; exact absurd ex (of_decide_eq_true z.2)
      · rw [if_neg ex, R.mem u hu x]; exact ⟨fun z => ⟨z, decide_eq_true ex⟩, fun z => z.1⟩
    · rw [show bump ats t u = ats u by unfold bump; rw [if_neg eu]]
      by_cases ex : x = d.2.2
      · rw [if_pos ex]
        constructor
        · intro z; cases z
        · intro z
          have := (R.mem u hu x).mpr z
          rw [ex, hg] at this
          have := Option.some.inj this
          omega
      · rw [if_neg ex]; exact R.mem u hu x
  · by_cases ex : x = d.2.2
    · rw [if_pos ex] at e; cases e
    · rw [if_neg ex] at e; exact R.dom x u e
theorem RunI.other (R : RunI mn ds ats hold) (h : (linesT ds t)[ats t]? = some d) (h1 : ¬ d.2.1 = W.take) (h2 : ¬ d.2.1 = W.give) : RunI mn ds (bump ats t) hold := by
  refine ⟨fun u hu x => ?_, R.dom⟩
  by_cases eu : u = t
  · subst eu
    rw [show bump ats u u = ats u + 1 by unfold bump; rw [if_pos rfl], take_one h, holds_snoc]
    unfold hstep
    rw [if_neg h1, if_neg h2, ite_self]
    exact R.mem u hu x
  · rw [show bump ats t u = ats u by unfold bump; rw [if_neg eu]]
    exact R.mem u hu x
theorem RunI.gives (fa : Fault (mn : Int) ds none) (R : RunI mn ds ats hold) (ht : t < mn) (h : (linesT ds t)[ats t]? = some d) (hw : d.2.1 = W.give) : hold d.2.2 = some (t : Int) := by
  obtain ⟨p, h1, h2⟩ := place_of t ds _ d h
  have f := fa p d h1
  have g := wo_give (faultOf_wo f) hw
  rw [own_fst h] at g
  have m := ((holdOk (fa.take p)).mem _ _).mpr g
  rw [holds_own, h2] at m
  exact (R.mem t ht _).mpr m
end
def it (f : Nat → Option Nat) (s : Nat) : Nat → Option Nat
  | 0 => some s
  | k + 1 => (it f s k).bind f
theorem it_shift {f : Nat → Option Nat} {s a b : Nat} (e : it f s a = it f s b) : ∀ m, it f s (a + m) = it f s (b + m)
  | 0 => e
  | m + 1 => by
    show (it f s (a + m)).bind f = (it f s (b + m)).bind f
    rw [it_shift e m]
theorem it_some {f : Nat → Option Nat} {s n : Nat} {v : Nat} (h : it f s n = some v) : ∀ k, k ≤ n → ∃ u, it f s k = some u := by
  induction n generalizing v with
  | zero => intro k hk; exact ⟨s, by rw [show k = 0 by omega]; rfl⟩
  | succ n ih =>
    intro k hk
    have h' : (it f s n).bind f = some v := h
    obtain ⟨u, e1, _⟩ := Option.bind_eq_some_iff.mp h'
    rcases Nat.lt_or_ge k (n + 1) with q | q
    · exact ih e1 k (by omega)
    · exact ⟨v, by rw [show k = n + 1 by omega]; exact h⟩
theorem it_inj {f : Nat → Option Nat} {s n a b : Nat} (h : it f s n = some s) (no : ∀ k, 1 ≤ k → k < n → it f s k ≠ some s) (hab : a < b) (hb : b < n) : it f s a ≠ it f s b := fun e => by
  have := it_shift e (n - b)
  rw [show b + (n - b) = n by omega, h] at this
  exact no (a + (n - b)) (by omega) (by omega) this
def stepW (ds : List Deed) (aw : Nat → Bool) (ats : Nat → Nat) (hold : Int → Option Int) (t : Nat) : Option Nat :=
  if aw t = true then match (linesT ds t)[ats t]? with
    | none => none
    | some d => if d.2.1 = W.take then (hold d.2.2).map Int.toNat else none
  else none
theorem stepW_some {ds : List Deed} {aw : Nat → Bool} {ats : Nat → Nat} {hold : Int → Option Int} {t u : Nat} (h : stepW ds aw ats hold t = some u) : ∃ d x, (linesT ds t)[ats t]? = some d ∧ d.2.1 = W.take ∧ hold d.2.2 = some x ∧ x.toNat = u := by
  unfold stepW at h
  split at h
  · split at h
    · cases h
    · next d e =>
      split at h
      · next z =>
        obtain ⟨x, h1, h2⟩ := Option.map_eq_some_iff.mp h
        exact ⟨d, x, e, z, h1, h2⟩
      · cases h
  · cases h
end RC
namespace K
open PySem L2 RC
theorem knot_ring {mn : Nat} {ds : List Deed} {aw : Nat → Bool} {ats : Nat → Nat} {hold : Int → Option Int} (R : RunI mn ds ats hold) {s n : Nat} (hs : s < mn) (hn : 1 ≤ n) (h : it (stepW ds aw ats hold) s n = some s) (no : ∀ k, 1 ≤ k → k < n → it (stepW ds aw ats hold) s k ≠ some s) : ∃ c, RingA ds c := by
  -- by each thread of the walk the place of its next take
  have hp : ∀ k, k < n → ∃ t u p : Nat, it (stepW ds aw ats hold) s k = some t ∧ it (stepW ds aw ats hold) s (k + 1) = some u ∧ t < mn ∧ u < mn ∧ p < ds.length ∧ tkA ds p = true ∧ thA ds p = (t : Int) ∧ hold (lkA ds p) = some (u : Int) ∧ ∀ x, x ∈ hdA ds p ↔ hold x = some (t : Int) := by
    intro k hk
    obtain ⟨t, et⟩ := it_some h k (by omega)
    obtain ⟨u, eu⟩ := it_some h (k + 1) (by omega)
    have st : stepW ds aw ats hold t = some u := by
      have : (it (stepW ds aw ats hold) s k).bind (stepW ds aw ats hold) = some u := eu
      rw [et] at this
      exact this
    obtain ⟨d, x, e1, e2, e3, e4⟩ := stepW_some st
    obtain ⟨v, hv, ev⟩ := R.dom _ _ e3
    have euv : u = v := by rw [← e4, ev]; rfl
    have htm : t < mn := by
      cases k with
      | zero => have : s = t := Option.some.inj et; omega
      | succ k =>
        have : (it (stepW ds aw ats hold) s k).bind (stepW ds aw ats hold) = some t := et
        obtain ⟨y, _, sy⟩ := Option.bind_eq_some_iff.mp this
        obtain ⟨d', x', _, _, g3, g4⟩ := stepW_some sy
        obtain ⟨v', hv', ev'⟩ := R.dom _ _ g3
        rw [ev'] at g4
        have : v' = t := g4
        omega
    obtain ⟨p, h1, h2⟩ := place_of t ds _ d e1
    have hpl : p < ds.length := (List.getElem?_eq_some_iff.mp h1).1
    have ed : dAt ds p = d := by
      have := dAt_get hpl
      rw [h1] at this
      exact (Option.some.inj this).symm
    have ow : d.1 = (t : Int) := by
      have := (List.mem_filter.mp (List.mem_of_getElem? e1)).2
      exact of_decide_eq_true this
    refine ⟨t, u, p, et, eu, htm, by omega, hpl, ?_, ?_, ?_, fun x => ?_⟩
    · unfold tkA; rw [ed]; exact decide_eq_true e2
    · unfold thA; rw [ed]; exact ow
    · unfold lkA; rw [ed, e3, ev, euv]
    · rw [R.mem t htm x]
      have : hdA ds p = srtI (holds (ds.take p) (dAt ds p).1) := rfl
      rw [this, (srtI_perm _).mem_iff, ed, ow, holds_own, h2]
  -- the chain of the first k + 1
  have key : ∀ k, k < n → ∃ c : List Nat, ChainA ds c ∧ c.length = k + 1 ∧ (∃ t, it (stepW ds aw ats hold) s k = some t ∧ thA ds (c.getLastD 0) = (t : Int)) ∧ (∃ u, it (stepW ds aw ats hold) s (k + 1) = some u ∧ hold (lkA ds (c.getLastD 0)) = some (u : Int)) ∧ (∀ x, x ∈ hdA ds (c.headD 0) ↔ hold x = some (s : Int)) ∧
      ∀ o ∈ c, ∃ j t, j ≤ k ∧ it (stepW ds aw ats hold) s j = some t ∧ thA ds o = (t : Int) ∧ ∀ x, x ∈ hdA ds o ↔ hold x = some (t : Int) := by
    intro k
    induction k with
    | zero =>
      intro hk
      obtain ⟨t, u, p, et, eu, htm, hum, hpl, q1, q2, q3, q4⟩ := hp 0 hk
      have est : s = t := Option.some.inj et
      refine ⟨[p], .one hpl q1, rfl, ⟨t, et, q2⟩, ⟨u, eu, q3⟩, fun x => by rw [est]; exact q4 x, fun o ho => ?_⟩
      rw [List.mem_singleton.mp ho]
      exact ⟨0, t, Nat.le_refl _, et, q2, q4⟩
    | succ k ih =>
      intro hk
      obtain ⟨c, hc, lc, ⟨t0, et0, th0⟩, ⟨u0, eu0, hu0⟩, hh, hall⟩ := ih (by omega)
      obtain ⟨t, u, p, et, eu, htm, hum, hpl, q1, q2, q3, q4⟩ := hp (k + 1) hk
      have e0 : u0 = t := by rw [eu0] at et; exact Option.some.inj et
      have hcan : RG.canF (lkA ds) (thA ds) (hdA ds) c p = true := by
        unfold RG.canF
        rw [Bool.and_eq_true, List.all_eq_true]
        refine ⟨decide_eq_true ((q4 _).mpr (by rw [hu0, e0])), fun o ho => ?_⟩
        obtain ⟨j, tj, hj, etj, thj, hdj⟩ := hall o ho
        have nj : tj ≠ t := fun z => it_inj h no (a := j) (b := k + 1) (by omega) hk (by rw [etj, et, z])
        have n1 : ¬ thA ds o = thA ds p := by rw [thj, q2]; omega
        have n2 : RG.com (hdA ds o) (hdA ds p) = [] := by
          unfold RG.com
          refine List.filter_eq_nil_iff.mpr fun x hx z => ?_
          have z := of_decide_eq_true z
          have a1 := (hdj x).mp hx
          have a2 := (q4 x).mp z
          rw [a1] at a2
          have := Option.some.inj a2
          omega
        rw [decide_eq_false n1, n2]
        rfl
      have hne : c ≠ [] := fun z => by rw [z] at lc; cases lc
      have elast : (c ++ [p]).getLastD 0 = p := by rw [List.getLastD_eq_getLast?, List.getLast?_append]; rfl
      have ehead : (c ++ [p]).headD 0 = c.headD 0 := by
        cases c with
        | nil => exact absurd rfl hne
        | cons a l => rfl
      refine ⟨c ++ [p], .snoc hc hpl q1 hcan, by rw [List.length_append, lc]; rfl, ⟨t, et, by rw [elast]; exact q2⟩, ⟨u, eu, by rw [elast]; exact q3⟩, by rw [ehead]; exact hh, fun o ho => ?_⟩
      rcases List.mem_append.mp ho with z | z
      · obtain ⟨j, tj, hj, r⟩ := hall o z
        exact ⟨j, tj, by omega, r⟩
      · rw [List.mem_singleton.mp z]
        exact ⟨k + 1, t, Nat.le_refl _, et, q2, q4⟩
  obtain ⟨c, hc, lc, _, ⟨u, eu, hu⟩, hh, _⟩ := key (n - 1) (by omega)
  refine ⟨c, hc, decide_eq_true ?_⟩
  rw [show n - 1 + 1 = n by omega, h] at eu
  exact (hh _).mpr (by rw [hu, ← Option.some.inj eu])
end K
namespace K
open PySem L2 RC
structure LnAt (H : Hp) (L : Addr) (mn : Nat) (ds : List Deed) : Prop where
  ex : ∃ rs : List Addr, H L = some (.lst (rs.map V.ref)) ∧ rs.length = mn ∧ ∀ (t : Nat) (a : Addr), rs[t]? = some a → ∃ xs, H a = some (.lst xs) ∧ Deeds H xs (linesT ds t)
theorem LnAt.same {H H' : Hp} {L : Addr} {mn : Nat} {ds : List Deed} (s : Same H H') (h : LnAt H L mn ds) : LnAt H' L mn ds := by
  obtain ⟨rs, e, l, k⟩ := h.ex
  refine ⟨rs, s _ _ e, l, fun t a q => ?_⟩
  obtain ⟨xs, h1, h2⟩ := k t a q
  exact ⟨xs, s _ _ h1, h2.same s⟩
abbrev nxD (ds : List Deed) (as : List Nat) (t : Nat) : Option Deed := (linesT ds t)[as.getD t 0]?
theorem nx_mem {ds : List Deed} {as : List Nat} {t : Nat} {d : Deed} (h : nxD ds as t = some d) : d ∈ ds := (List.mem_filter.mp (List.mem_of_getElem? h)).1
theorem thing_of {mn : Int} {ds : List Deed} {d : Deed} (fa : Fault mn ds none) (h : d ∈ ds) (hw : d.2.1 = W.fork ∨ d.2.1 = W.wait) : 0 ≤ d.2.2 ∧ d.2.2 < mn := by
  obtain ⟨j, hj, e⟩ := List.getElem_of_mem h
  have f := fa j d (by rw [List.getElem?_eq_getElem hj, e])
  unfold faultOf at f
  rw [Option.or_eq_none_iff] at f
  have hf := f.1
  unfold form at hf
  split at hf
  · cases hf
  split at hf
  · cases hf
  split at hf
  · cases hf
  next z => exact ⟨by omega, by
    have : ¬ (mn ≤ d.2.2) := fun q => z (.inr ⟨hw, q⟩)
    omega⟩
def spNext : Sp := fun vs H Q _ => ∃ (L p : Addr) (t mn : Nat) (ds : List Deed) (as : List Nat), vs = [.ref L, .ref p, .int (t : Int)] ∧ LnAt H L mn ds ∧ H p = some (.lst (as.map vI)) ∧ as.length = mn ∧ t < mn ∧ ds.length ≤ 60 ∧ (nxD ds as t = none → Q .non H) ∧ ∀ d r, nxD ds as t = some d → H r = some (tupA d) → Q (.ref r) H
structure RnAt (H : Hp) (p aw ho : Addr) (mn : Nat) (as : List Nat) (bs : List Bool) (hold : Int → Option Int) (i : Nat) : Prop where
  ep : H p = some (.lst (as.map vI))
  la : as.length = mn
  ea : H aw = some (.lst (bs.map V.bl))
  lb : bs.length = mn
  eh : ∃ kvs : List (Key × V), H ho = some (.dK kvs) ∧ kvs.length ≤ i ∧ ∀ x : Int, valV kvs (Sum.inl x) = (hold x).map V.int
theorem RnAt.same {H H' : Hp} {p aw ho : Addr} {mn : Nat} {as : List Nat} {bs : List Bool} {hold : Int → Option Int} {i : Nat} (s : Same H H') (h : RnAt H p aw ho mn as bs hold i) : RnAt H' p aw ho mn as bs hold i := by
  obtain ⟨kvs, e, l, v⟩ := h.eh
  exact ⟨s _ _ h.ep, h.la, s _ _ h.ea, h.lb, kvs, s _ _ e, l, v⟩
def spCanR : Sp := fun vs H Q _ => ∃ (L p aw ho : Addr) (t mn : Nat) (ds : List Deed) (as : List Nat) (bs : List Bool) (hold : Int → Option Int) (i : Nat), vs = [.ref L, .ref p, .ref aw, .ref ho, .int (t : Int)] ∧ LnAt H L mn ds ∧ RnAt H p aw ho mn as bs hold i ∧ t < mn ∧ ds.length ≤ 60 ∧ Fault (mn : Int) ds none ∧
  ∀ b : Bool, (b = true → ∃ d, nxD ds as t = some d ∧ (d.2.1 = W.take → hold d.2.2 = none)) → Q (.bl b) H
abbrev nCanR : List Str := ["_law_lines", "_law_at", "_law_awake", "_law_holders", "_law_thread", "_law_deed"]
theorem getD_get {α : Type} {l : List α} {i : Nat} {d : α} (h : i < l.length) : l[i]? = some (l.getD i d) := by
  rw [List.getD_eq_getElem?_getD, List.getElem?_eq_getElem h]
  rfl
section
variable {P : Program} {w : World} {K : PySem.W.Frag} {mg : Str → Option Value} {base : Heap}
theorem scNext : FnScope ["_law_lines", "_law_at", "_law_thread"] ["_law_lines", "_law_at", "_law_thread"] (defScope s__law_next) := ⟨rfl, rfl, rfl, by decide +kernel, rfl, by decide +kernel, by decide +kernel⟩
theorem ok_next {f C aW aT : Addr} {fd : FuncData} (F : Fun K "_law_next" "_law_next" s__law_next f fd) (T : Txt K mg C aW aT) : FnOk P w K mg base CX0 1 f fd ["_law_lines", "_law_at", "_law_thread"] spNext := by
  refine F.ok scNext (fun vs H Q E h => ?_) (fun cdv A outer s H vs Q E hr h => ?_)
  · obtain ⟨L, p, t, mn, ds, as, rfl, _⟩ := h
    rfl
  · obtain ⟨L, p, t, mn, ds, as, rfl, hL, ep, la, ht, hlen, k0, k1⟩ := h
    have nd := scNext.nd
    obtain ⟨rs, eL, lr, hk⟩ := hL.ex
    have htr : t < rs.length := by omega
    obtain ⟨xs, ex, hd⟩ := hk t rs[t] (List.getElem?_eq_getElem htr)
    have lx := hd.len
    have e1 : atI (rs.map V.ref) (t : Int) = some (.ref rs[t]) := atI_nat (by rw [List.getElem?_map, List.getElem?_eq_getElem htr]; rfl)
    have e2 : atI (as.map vI) (t : Int) = some (vI (as.getD t 0)) := atI_nat (by rw [List.getElem?_map, getD_get (d := 0) (by omega : t < as.length)]; rfl)
    refine ⟨_, pss_cons (ps_if (pt_cmpR op_lt (pe_ix ix_list (pv 1) (pv 2) (fun _ _ => rfl)) (pe_callB call_len_seq (by rfl) T.len PySem.boot_len (pa_cons (pe_ix ix_list (pv 0) (pv 2) (fun _ _ => rfl)) pa_nil)) (nomark _)) (pss_one (ps_ret (pe_ix ix_list (pe_ix ix_list (pv 0) (pv 2) (fun _ _ => rfl)) (pe_ix ix_list (pv 1) (pv 2) (fun _ _ => rfl)) (fun _ _ => rfl)))) pss_nil)
      (pss_one (ps_ret pe_non)), ?_⟩
    refine PuT.ifs (c := as.getD t 0 < (linesT ds t).length) (fun Qt q => ⟨_, rfl, _, rfl, p, _, _, _, rfl, rfl, SqL.of ep, e2, _, rfl, _, rfl, L, _, _, _, rfl, rfl, SqL.of eL, e1, rs[t], xs, rfl, .inl (SqL.of ex), _, _, rfl, rfl, _, rfl, by
        have : decide (((as.getD t 0 : Nat) : Int) < ((xs.length : Nat) : Int)) = decide (as.getD t 0 < (linesT ds t).length) := by rw [decide_eq_decide, lx]; omega
        rw [this]
        exact q⟩) (fun z => ?_) (fun z => ?_)
    · have en : nxD ds as t = some (linesT ds t)[as.getD t 0] := List.getElem?_eq_getElem z
      obtain ⟨r, er, er'⟩ := hd.at en
      exact ⟨_, rfl, _, rfl, L, _, _, _, rfl, rfl, SqL.of eL, e1, _, rfl, _, rfl, p, _, _, _, rfl, rfl, SqL.of ep, e2, rs[t], xs, _, .ref r, rfl, rfl, SqL.of ex, atI_nat er, k1 _ r en er'⟩
    · exact k0 (List.getElem?_eq_none (by omega))
theorem scCanR : FnScope nCanR ["_law_lines", "_law_at", "_law_awake", "_law_holders", "_law_thread"] (defScope s__law_can) := ⟨rfl, rfl, rfl, by decide +kernel, rfl, by decide +kernel, by decide +kernel⟩
theorem ok_canr {f fN : Addr} {fd fdN : FuncData} (F : Fun K "_law_can" "_law_can" s__law_can f fd)
    (GN : FnOk P w K mg base CX0 1 fN fdN ["_law_lines", "_law_at", "_law_thread"] spNext) (cN : Cal K mg "_law_next" fN fdN ["_law_lines", "_law_at", "_law_thread"]) : FnOk P w K mg base CX0 2 f fd ["_law_lines", "_law_at", "_law_awake", "_law_holders", "_law_thread"] spCanR := by
  refine F.ok scCanR (fun vs H Q E h => ?_) (fun cdv A outer s H vs Q E hr h => ?_)
  · obtain ⟨L, p, aw, ho, t, mn, ds, as, bs, hold, i, rfl, _⟩ := h
    rfl
  · obtain ⟨L, p, aw, ho, t, mn, ds, as, bs, hold, i, rfl, hL, hR, ht, hlen, fa, k⟩ := h
    have nd := scCanR.nd
    have hu := hu_of hr
    obtain ⟨kvs, eh, lk, vk⟩ := hR.eh
    have eb : ∀ u : Nat, u < mn → atI (bs.map V.bl) (u : Int) = some (.bl (bs.getD u false)) := fun u hu => atI_nat (by rw [List.getElem?_map, getD_get (d := false) (by have := hR.lb; omega : u < bs.length)]; rfl)
    refine ⟨_, pss_cons (ps_set (i := 5) nd rfl (Or.inl rfl) (pe_call GN hr rfl cN.mgf cN.kp cN.b .nil pass0 (pa_cons (pv 0) (pa_cons (pv 1) (pa_cons (pv 4) pa_nil)))))
      (pss_cons (ps_if (PW.pt (pw_or (pt_cmpR op_isN (pv 5) pe_non (nomark _)) (pw_or1 (pt_not (pt_val (pe_ix ix_list (pv 2) (pv 4) (fun _ _ => rfl))))))) (pss_one (ps_ret pe_bl)) pss_nil)
      (pss_cons (ps_if (pt_cmpR op_eq (pe_ix ix_tup (pv 5) pe_int (fun _ _ => rfl)) pe_str (nomark _)) (pss_one (ps_ret (pe_cmp (pc_dnotin hu (pe_ix ix_tup (pv 5) pe_int (fun _ _ => rfl)) (pv 3))))) pss_nil)
      (pss_cons (ps_if (pt_cmpR op_eq (pe_ix ix_tup (pv 5) pe_int (fun _ _ => rfl)) pe_str (nomark _)) (pss_one (ps_ret (pe_and (pe_ix ix_list (pv 2) (pe_ix ix_tup (pv 5) pe_int (fun _ _ => rfl)) (fun _ _ => rfl)) (pe_one (pe_cmpR op_isN (pe_call GN hr rfl cN.mgf cN.kp cN.b .nil pass0 (pa_cons (pv 0) (pa_cons (pv 1) (pa_cons (pe_ix ix_tup (pv 5) pe_int (fun _ _ => rfl)) pa_nil)))) pe_non (nomark _)))))) pss_nil)
      (pss_one (ps_ret pe_bl))))), ?_⟩
    refine ⟨_, rfl, _, rfl, _, rfl, L, p, t, mn, ds, as, rfl, hL, hR.ep, hR.la, ht, hlen, fun e0 => ?_, fun d r e0 er => ?_⟩
    · dsimp only [gName]
      exact PuT.ifs (c := True) ((PuT.or (a := true) (b := true) (fun Qt q => ⟨_, rfl, rfl, _, rfl, q⟩) (fun z => nomatch z)).iff (by simp)) (fun _ => k false (fun z => nomatch z)) (fun z => (z trivial).elim)
    dsimp only [gName]
    refine PuT.ifs (c := bs.getD t false = false) ((PuT.or (a := false) (b := !bs.getD t false) (fun Qt q => ⟨_, rfl, rfl, _, rfl, q⟩) (fun _ => PuT.not (a := bs.getD t false) (fun Qt q => ⟨_, rfl, _, rfl, aw, _, _, _, rfl, rfl, SqL.of hR.ea, eb t ht, _, rfl, q⟩))).iff (by simp)) (fun _ => k false (fun z => nomatch z)) (fun _ => ?_)
    refine PuT.ifs (c := d.2.1 = W.take) (fun Qt q => ⟨_, rfl, r, _, 1, .str d.2.1, rfl, rfl, SqT.of er, rfl, rfl, _, rfl, by rw [dec_str']; exact q⟩) (fun z => ?_) (fun z => ?_)
    · refine ⟨_, rfl, r, _, 2, .int d.2.2, rfl, rfl, SqT.of er, rfl, _, rfl, ho, _, rfl, DGet.k (k := Sum.inl d.2.2) eh, ?_⟩
      refine k _ fun zz => ⟨d, e0, fun _ => ?_⟩
      rw [vk d.2.2] at zz
      cases q : hold d.2.2 with
      | none => rfl
      | some x => rw [q] at zz; cases zz
    refine PuT.ifs (c := d.2.1 = W.wait) (fun Qt q => ⟨_, rfl, r, _, 1, .str d.2.1, rfl, rfl, SqT.of er, rfl, rfl, _, rfl, by rw [dec_str']; exact q⟩) (fun z2 => ?_) (fun z2 => k true fun _ => ⟨d, e0, fun e => absurd e z⟩)
    obtain ⟨x0, xm⟩ := thing_of fa (nx_mem e0) (.inr z2)
    obtain ⟨u, eu⟩ : ∃ u : Nat, d.2.2 = (u : Int) := ⟨d.2.2.toNat, by omega⟩
    have hum : u < mn := by omega
    have er' : H r = some (.tup [.int d.1, .str d.2.1, .int (u : Int)]) := by rw [← eu]; exact er
    refine ⟨_, rfl, _, rfl, r, _, 2, .int (u : Int), rfl, rfl, SqT.of er', rfl, aw, _, _, _, rfl, rfl, SqL.of hR.ea, eb u hum, bs.getD u false, rfl, ?_⟩
    cases hb : bs.getD u false with
    | false => exact iteF (k false (fun z => nomatch z))
    | true =>
      refine iteT ⟨_, rfl, _, rfl, _, rfl, r, _, 2, .int (u : Int), rfl, rfl, SqT.of er', rfl, L, p, u, mn, ds, as, rfl, hL, hR.ep, hR.la, hum, hlen, fun _ => ⟨rfl, k _ fun _ => ⟨d, e0, fun e => absurd e z⟩⟩, fun d' r' _ _ => ⟨rfl, k _ fun _ => ⟨d, e0, fun e => absurd e z⟩⟩⟩
end
end K
namespace K
open PySem L2 RC
theorem seq_asgC {v : V} {i : Nat} {rest : TS} {D : Ends} {σ : St} {H : Hp} (h : rest D (σ.set i (some v)) H) : tSeq (tAsg (tC v) (gName i)) rest D σ H := h
abbrev oT : Option Nat → V
  | none => .non
  | some t => .int (t : Int)
def spKnot : Sp := fun vs H Q _ => ∃ (L p aw ho : Addr) (mn : Nat) (ds : List Deed) (as : List Nat) (bs : List Bool) (hold : Int → Option Int) (i : Nat), vs = [.ref L, .ref p, .ref aw, .ref ho] ∧ LnAt H L mn ds ∧ RnAt H p aw ho mn as bs hold i ∧ mn ≤ 6 ∧ ds.length ≤ 60 ∧ RunI mn ds (fun t => as.getD t 0) hold ∧
  ∀ b : Bool, (b = true → ∃ c, RingA ds c) → Q (.bl b) H
abbrev nKnot : List Str := ["_law_lines", "_law_at", "_law_awake", "_law_holders", "_law_start", "_law_thread", "_law_turn", "_law_deed"]
section
variable {P : Program} {w : World} {K : PySem.W.Frag} {mg : Str → Option Value} {base : Heap}
theorem scKnot : FnScope nKnot ["_law_lines", "_law_at", "_law_awake", "_law_holders"] (defScope s__law_knotted) := ⟨rfl, rfl, rfl, by decide +kernel, rfl, by decide +kernel, by decide +kernel⟩
theorem ok_knot {f C aW aT fN : Addr} {fd fdN : FuncData} (F : Fun K "_law_knotted" "_law_knotted" s__law_knotted f fd) (T : Txt K mg C aW aT)
    (GN : FnOk P w K mg base CX0 1 fN fdN ["_law_lines", "_law_at", "_law_thread"] spNext) (cN : Cal K mg "_law_next" fN fdN ["_law_lines", "_law_at", "_law_thread"]) : FnOk P w K mg base CX0 2 f fd ["_law_lines", "_law_at", "_law_awake", "_law_holders"] spKnot := by
  refine F.ok scKnot (fun vs H Q E h => ?_) (fun cdv A outer s H vs Q E hr h => ?_)
  · obtain ⟨L, p, aw, ho, mn, ds, as, bs, hold, i, rfl, _⟩ := h
    rfl
  · obtain ⟨L, p, aw, ho, mn, ds, as, bs, hold, i0, rfl, hL, hR, m6, hlen, RI, k⟩ := h
    have nd := scKnot.nd
    have hu := hu_of hr
    obtain ⟨kvs, eh, lk, vk⟩ := hR.eh
    obtain ⟨rs, eL, lr, hk⟩ := id hL.ex
    have lrm : (rs.map V.ref).length = mn := by rw [List.length_map]; exact lr
    have eb : ∀ u : Nat, u < mn → atI (bs.map V.bl) (u : Int) = some (.bl (bs.getD u false)) := fun u hu => atI_nat (by rw [List.getElem?_map, getD_get (d := false) (by have := hR.lb; omega : u < bs.length)]; rfl)
    refine ⟨_, pss_cons (ps_for PassesOwn.never rfl (pi_range1 rfl T.rng (pa_cons (pe_callB call_len_seq (by rfl) T.len PySem.boot_len (pa_cons (pv 0) pa_nil)) pa_nil)) (pg_name (i := 4) nd rfl (Or.inl rfl))
        (pss_cons (ps_set (i := 5) nd rfl (Or.inl rfl) (pv 4))
        (pss_one (ps_for PassesOwn.never rfl (pi_range1 rfl T.rng (pa_cons (pe_callB call_len_seq (by rfl) T.len PySem.boot_len (pa_cons (pv 0) pa_nil)) pa_nil)) (pg_name (i := 6) nd rfl (Or.inl rfl))
          (pss_cons (ps_set (i := 7) nd rfl (Or.inl rfl) pe_non)
          (pss_cons (ps_if (PW.pt (pw_and (pt_cmpR op_notN (pv 5) pe_non (nomark _)) (pw_and1 (pt_val (pe_ix ix_list (pv 2) (pv 5) (fun _ _ => rfl)))))) (pss_one (ps_set (i := 7) nd rfl (Or.inl rfl) (pe_call GN hr rfl cN.mgf cN.kp cN.b .nil pass0 (pa_cons (pv 0) (pa_cons (pv 1) (pa_cons (pv 5) pa_nil)))))) pss_nil)
          (pss_cons (ps_set (i := 5) nd rfl (Or.inl rfl) pe_non)
          (pss_cons (ps_if (PW.pt (pw_and (pt_cmpR op_notN (pv 7) pe_non (nomark _)) (pw_and1 (pt_cmpR op_eq (pe_ix ix_tup (pv 7) pe_int (fun _ _ => rfl)) pe_str (nomark _))))) (pss_one (ps_set (i := 5) nd rfl (Or.inl rfl) (pe_dget1 hu (pv 3) (pe_ix ix_tup (pv 7) pe_int (fun _ _ => rfl)) ⟨rfl, rfl, rfl, rfl⟩))) pss_nil)
          (pss_one (ps_if (pt_cmpR op_eq (pv 5) (pv 4) (nomark _)) (pss_one (ps_ret pe_bl)) pss_nil))))))))))
      (pss_one (ps_ret pe_bl)), ?_⟩
    refine ⟨_, rfl, L, _, rfl, .inl (SqL.of eL), _, rfl, by rw [lrm]; omega, by rw [lrm]; omega, for_range (lo := 0) (n := (((rs.map V.ref).length : Nat) : Int).toNat) (fun i σ HC => ∃ (v4 v5 v6 v7 : Option V), σ = [some (.ref L), some (.ref p), some (.ref aw), some (.ref ho), v4, v5, v6, v7] ∧ HC = H)
      ⟨none, none, none, none, rfl, rfl⟩ ?_ (fun σ HC ⟨_, _, _, _, e, eH⟩ => by subst e; subst eH; exact k false (fun z => nomatch z))⟩
    rintro i σ HC hi ⟨v4, v5, v6, v7, rfl, rfl⟩
    have him : i < mn := by
      have : i < (rs.map V.ref).length := by simpa using hi
      omega
    have e0 : (0 : Int) + (i : Int) = (i : Int) := by omega
    rw [e0]
    dsimp only [gName]
    refine ⟨_, rfl, ?_⟩
    dsimp only [gName]
    refine ⟨_, rfl, L, _, rfl, .inl (SqL.of eL), _, rfl, by rw [lrm]; omega, by rw [lrm]; omega, for_range (lo := 0) (n := (((rs.map V.ref).length : Nat) : Int).toNat) (fun j σ H' => ∃ (o : Option Nat) (v6 v7 : Option V), σ = [some (.ref L), some (.ref p), some (.ref aw), some (.ref ho), some (.int (i : Int)), some (oT o), v6, v7] ∧ H' = HC ∧ o = it (stepW ds (fun t => bs.getD t false) (fun t => as.getD t 0) hold) i j ∧ (∀ t, o = some t → t < mn) ∧ ∀ q, 1 ≤ q → q ≤ j → it (stepW ds (fun t => bs.getD t false) (fun t => as.getD t 0) hold) i q ≠ some i)
      ⟨some i, _, _, rfl, rfl, rfl, fun t e => by cases e; exact him, fun q h1 h2 => by omega⟩ ?_ (fun σ H' ⟨_, _, _, e, eH, _⟩ => ⟨_, _, _, _, e, eH⟩)⟩
    rintro j σ H' hj ⟨o, v6, v7, rfl, rfl, eo, hom, hno⟩
    dsimp only [gName]
    refine seq_asgC ?_
    -- the deed
    refine PuT.ifsJ (c := (match o with | none => false | some t => bs.getD t false) = true) (fun σ' H'' => ∃ (dv : V) (od : Option Deed), σ' = [some (.ref L), some (.ref p), some (.ref aw), some (.ref ho), some (.int (i : Int)), some (oT o), some (.int (0 + (j : Int))), some dv] ∧ H'' = H' ∧ od = (o.bind fun t => if bs.getD t false = true then nxD ds as t else none) ∧ ((od = none ∧ dv = .non) ∨ ∃ d r, od = some d ∧ dv = .ref r ∧ H' r = some (tupA d))) ?_ (fun z N hN => ?_) (fun z => ⟨.non, none, rfl, rfl, ?_, .inl ⟨rfl, rfl⟩⟩) ?_
    · cases o with
      | none => exact (PuT.and (a := false) (b := false) (fun Qt q => ⟨_, rfl, rfl, _, rfl, q⟩) (fun z => nomatch z)).iff (by simp)
      | some t => exact (PuT.and (a := true) (b := bs.getD t false) (fun Qt q => ⟨_, rfl, rfl, _, rfl, q⟩) (fun _ Qt q => ⟨_, rfl, _, rfl, aw, _, _, _, rfl, rfl, SqL.of hR.ea, eb t (hom t rfl), _, rfl, q⟩)).iff (by simp)
    · cases o with
      | none => cases z
      | some t =>
        have z : bs.getD t false = true := z
        refine ⟨_, rfl, _, rfl, _, rfl, L, p, t, mn, ds, as, rfl, hL, hR.ep, hR.la, hom t rfl, hlen, fun e => hN _ _ ⟨.non, none, rfl, rfl, ?_, .inl ⟨rfl, rfl⟩⟩, fun d r e er => hN _ _ ⟨.ref r, some d, rfl, rfl, ?_, .inr ⟨d, r, rfl, rfl, er⟩⟩⟩
        · show none = if bs.getD t false = true then nxD ds as t else none
          rw [if_pos z, e]
        · show some d = if bs.getD t false = true then nxD ds as t else none
          rw [if_pos z, e]
    · cases o with
      | none => rfl
      | some t =>
        have z : ¬ bs.getD t false = true := z
        show none = if bs.getD t false = true then nxD ds as t else none
        rw [if_neg z]
    rintro σ' H'' ⟨dv, od, rfl, rfl, eod, hdv⟩
    refine seq_asgC ?_
    have eit : it (stepW ds (fun t => bs.getD t false) (fun t => as.getD t 0) hold) i (j + 1) = od.bind fun d => if d.2.1 = W.take then (hold d.2.2).map Int.toNat else none := by
      show (it (stepW ds (fun t => bs.getD t false) (fun t => as.getD t 0) hold) i j).bind _ = _
      rw [← eo, eod]
      cases o with
      | none => rfl
      | some t =>
        show stepW ds (fun t => bs.getD t false) (fun t => as.getD t 0) hold t = (if bs.getD t false = true then nxD ds as t else none).bind _
        unfold stepW
        by_cases z : bs.getD t false = true
        · rw [if_pos z, if_pos z]
          show (match nxD ds as t with | none => none | some d => if d.2.1 = W.take then (hold d.2.2).map Int.toNat else none) = _
          cases nxD ds as t <;> rfl
        · rw [if_neg z, if_neg z]
          rfl
    refine PuT.ifsJ (c := (match od with | none => false | some d => decide (d.2.1 = W.take)) = true) (fun σ' H2 => ∃ (o2 : Option Nat) (v7 : Option V), σ' = [some (.ref L), some (.ref p), some (.ref aw), some (.ref ho), some (.int (i : Int)), some (oT o2), some (.int (0 + (j : Int))), v7] ∧ H2 = H'' ∧ o2 = it (stepW ds (fun t => bs.getD t false) (fun t => as.getD t 0) hold) i (j + 1) ∧ ∀ t, o2 = some t → t < mn) ?_ (fun z N hN => ?_) (fun z => ⟨none, _, rfl, rfl, ?_, fun t e => (by cases e)⟩) ?_
    · rcases hdv with ⟨rfl, rfl⟩ | ⟨d, r, rfl, rfl, er⟩
      · exact (PuT.and (a := false) (b := false) (fun Qt q => ⟨_, rfl, rfl, _, rfl, q⟩) (fun z => nomatch z)).iff (by simp)
      · exact (PuT.and (a := true) (b := decide (d.2.1 = W.take)) (fun Qt q => ⟨_, rfl, rfl, _, rfl, q⟩) (fun _ Qt q => ⟨_, rfl, r, _, 1, .str d.2.1, rfl, rfl, SqT.of er, rfl, rfl, _, rfl, by rw [dec_str']; exact q⟩)).iff (by simp)
    · rcases hdv with ⟨rfl, rfl⟩ | ⟨d, r, rfl, rfl, er⟩
      · cases z
      · have z : d.2.1 = W.take := of_decide_eq_true z
        have eit' : it (stepW ds (fun t => bs.getD t false) (fun t => as.getD t 0) hold) i (j + 1) = (hold d.2.2).map Int.toNat := by
          rw [eit]
          show (if d.2.1 = W.take then (hold d.2.2).map Int.toNat else none) = _
          rw [if_pos z]
        refine ⟨_, rfl, ho, rfl, .inl ⟨kvs, .inl eh⟩, _, rfl, r, _, 2, .int d.2.2, rfl, rfl, SqT.of er, rfl, _, DGet.k (k := Sum.inl d.2.2) eh, ?_⟩
        rw [vk d.2.2]
        cases q : hold d.2.2 with
        | none => exact hN _ _ ⟨none, _, rfl, rfl, by rw [eit', q]; rfl, fun t e => (by cases e)⟩
        | some x =>
          obtain ⟨u, hu', ex⟩ := RI.dom _ _ q
          rw [ex]
          exact hN _ _ ⟨some u, _, rfl, rfl, by rw [eit', q, ex]; rfl, fun t e => by cases e; exact hu'⟩
    · rw [eit]
      rcases hdv with ⟨rfl, rfl⟩ | ⟨d, r, rfl, rfl, er⟩
      · rfl
      · have z : ¬ d.2.1 = W.take := fun zz => z (decide_eq_true zz)
        show none = if d.2.1 = W.take then (hold d.2.2).map Int.toNat else none
        rw [if_neg z]
    rintro σ2 H2 ⟨o2, v7', rfl, rfl, eo2, hom2⟩
    refine PuT.if1 (c := o2 = some i) ?_ (fun z => ?_) (fun z => ⟨o2, _, _, rfl, rfl, eo2, hom2, fun q h1 h2 => ?_⟩)
    · refine fun Qt q => ⟨_, rfl, _, rfl, ?_, _, rfl, ?_⟩
      · cases o2 <;> rfl
      · have : decide (oT o2 = V.int (i : Int)) = decide (o2 = some i) := by
          rw [decide_eq_decide]
          cases o2 with
          | none => constructor <;> intro h <;> cases h
          | some t =>
            constructor
            · intro h
              have : (t : Int) = (i : Int) := V.int.inj h
              rw [show t = i by omega]
            · intro h
              cases h
              rfl
        rw [this]
        exact q
    · refine k true fun _ => knot_ring RI him (n := j + 1) (by omega) (by rw [← eo2]; exact z) fun q h1 h2 => hno q h1 (by omega)
    · rcases Nat.lt_or_ge q (j + 1) with z' | z'
      · exact hno q h1 (by omega)
      · rw [show q = j + 1 by omega, ← eo2]
        exact z
end
end K
namespace K
open PySem L2 RC
def spCR (K : PySem.W.Frag) : Sp := fun vs H Q _ => ∃ (L pk : Addr) (mn : Nat) (ds : List Deed) (ms : List Int), vs = [.ref L, .int (mn : Int), .ref pk] ∧ LnAt H L mn ds ∧ 1 ≤ mn ∧ mn ≤ 6 ∧ ds.length ≤ 60 ∧ Fault (mn : Int) ds none ∧ SqL K H pk (ms.map V.int) ∧ ms.length ≤ 100 ∧
  ∀ (b : Bool) (H' : Hp), Same H H' → (b = true → ∃ c, RingA ds c) → Q (.bl b) H'
abbrev nCR : List Str := ["_law_lines", "_law_many", "_law_picks_here", "_law_at", "_law_thread", "_law_awake", "_law_holders", "_law_pick", "_law_able", "_law_deed"]
theorem ndThK : (["_law_thread"] : List Str).Nodup := by decide +kernel
theorem ndTAAHL : (["_law_thread", "_law_at", "_law_awake", "_law_holders", "_law_lines"] : List Str).Nodup := by decide +kernel
theorem RnAt.le {H : Hp} {p aw ho : Addr} {mn : Nat} {as : List Nat} {bs : List Bool} {hold : Int → Option Int} {i j : Nat} (h : RnAt H p aw ho mn as bs hold i) (hij : i ≤ j) : RnAt H p aw ho mn as bs hold j := by
  obtain ⟨kvs, e, l, v⟩ := h.eh
  exact ⟨h.ep, h.la, h.ea, h.lb, kvs, e, by omega, v⟩
theorem ixN_nat' {n j : Nat} (h : j < n) : ixN n (j : Int) = some j := by
  unfold ixN
  rw [if_pos (by omega), if_pos (by omega)]
  rfl
theorem flat_zero (n : Nat) : (List.replicate n [V.int 0]).flatten = (List.replicate n 0).map vI := by
  induction n with
  | zero => rfl
  | succ n ih => rw [List.replicate_succ, List.flatten_cons, ih, List.replicate_succ, List.map_cons]; rfl
theorem replicate_getD (n t : Nat) : (List.replicate n 0).getD t 0 = 0 := by
  rw [List.getD_eq_getElem?_getD, List.getElem?_replicate]
  split <;> rfl
theorem set_bump {as : List Nat} {t v : Nat} (h : t < as.length) : (fun u => (as.set t (as.getD t 0 + 1)).getD u 0) = RC.bump (fun u => as.getD u 0) t := by
  funext u
  unfold RC.bump
  rw [List.getD_eq_getElem?_getD, List.getElem?_set]
  by_cases e : u = t
  · subst e
    rw [if_pos rfl, if_pos rfl, if_pos h]
    rfl
  · rw [if_neg (fun z => e z.symm), if_neg e]
    show _ = as.getD u 0
    rw [List.getD_eq_getElem?_getD]
section
variable {P : Program} {w : World} {K : PySem.W.Frag} {mg : Str → Option Value} {base : Heap}
theorem scCR : FnScope nCR ["_law_lines", "_law_many", "_law_picks_here"] (defScope s__law_comes_round) := ⟨rfl, rfl, rfl, by decide +kernel, rfl, by decide +kernel, by decide +kernel⟩
theorem ok_cr {f C aW aT fN fC fK : Addr} {fd fdN fdC fdK : FuncData} (F : Fun K "_law_comes_round" "_law_comes_round" s__law_comes_round f fd) (T : Txt K mg C aW aT)
    (GN : FnOk P w K mg base CX0 1 fN fdN ["_law_lines", "_law_at", "_law_thread"] spNext) (cN : Cal K mg "_law_next" fN fdN ["_law_lines", "_law_at", "_law_thread"])
    (GC : FnOk P w K mg base CX0 2 fC fdC ["_law_lines", "_law_at", "_law_awake", "_law_holders", "_law_thread"] spCanR) (cC : Cal K mg "_law_can" fC fdC ["_law_lines", "_law_at", "_law_awake", "_law_holders", "_law_thread"])
    (GK : FnOk P w K mg base CX0 2 fK fdK ["_law_lines", "_law_at", "_law_awake", "_law_holders"] spKnot) (cK : Cal K mg "_law_knotted" fK fdK ["_law_lines", "_law_at", "_law_awake", "_law_holders"]) :
    FnOk P w K mg base CX0 3 f fd ["_law_lines", "_law_many", "_law_picks_here"] (spCR K) := by
  refine F.ok scCR (fun vs H Q E h => ?_) (fun cdv A outer s H vs Q E hr h => ?_)
  · obtain ⟨L, pk, mn, ds, ms, rfl, _⟩ := h
    rfl
  · obtain ⟨L, pk, mn, ds, ms, rfl, hL, m1, m6, hlen, fa, hpk, lms, k⟩ := h
    have nd := scCR.nd
    have hu := hu64Y hr
    have hu1 := hu_of hr
    have hr1 : Room 1 _ := hr.mono (by decide)
    refine ⟨_, pss_cons (ps_set (i := 3) nd rfl (Or.inr rfl) (pe_op op_rep (pe_lst (pa_cons pe_int pa_nil)) (pv 1)))
      (pss_cons (ps_set (i := 5) nd rfl (Or.inr rfl) (pe_comp (N := ["_law_thread"]) (nt := 1) (fr := []) (te := tOp rEq (tVar 0) (tC (.int 0))) rfl
          (.of (XN := nCR) (osc := defScope s__law_comes_round) rfl rfl rfl (by decide +kernel) (by decide +kernel) (by decide +kernel) rfl (by decide +kernel)) (pi_range1 rfl T.rng (pa_cons (pv 1) pa_nil))
          (fun _ _ _ _ _ _ => ⟨pg_name (i := 0) ndThK rfl (Or.inl rfl), pif_nil, pe_cmpR op_eq (pv 0) pe_int (nomark _)⟩)))
      (pss_cons (ps_set (i := 6) nd rfl (Or.inr rfl) pe_dnewK)
      (pss_cons (ps_for PassesOwn.never rfl (pi_list (pv 2)) (pg_name (i := 7) nd rfl (Or.inl rfl))
        (pss_cons (ps_setComp (i := 8) (N := ["_law_thread", "_law_at", "_law_awake", "_law_holders", "_law_lines"]) (nt := 1) (fr := [3, 5, 6, 0]) (tt := tB (tCall spCanR [] E0 (tCons (tVar 4) (tCons (tVar 1) (tCons (tVar 2) (tCons (tVar 3) (tCons (tVar 0) tNil))))))) (te := tVar 0) nd rfl (Or.inl rfl) rfl
            (.of (XN := nCR) (osc := defScope s__law_comes_round) rfl rfl rfl (by decide +kernel) (by decide +kernel) (by decide +kernel) rfl (by decide +kernel)) (pi_range1 rfl T.rng (pa_cons (pv 1) pa_nil))
            (fun _ _ _ _ _ _ => ⟨pg_name (i := 0) ndTAAHL rfl (Or.inl rfl), pif_one (pt_val (pe_call GC hr rfl cC.mgf cC.kp cC.b .nil pass0 (pa_cons (pv 4) (pa_cons (pv 1) (pa_cons (pv 2) (pa_cons (pv 3) (pa_cons (pv 0) pa_nil))))))), pv 0⟩))
        (pss_cons (ps_if (pt_cmpR (op_eqD hu) (pv 8) (pe_lst pa_nil) (nomark _)) (pss_one (ps_ret (pe_call GK hr rfl cK.mgf cK.kp cK.b .nil pass0 (pa_cons (pv 0) (pa_cons (pv 3) (pa_cons (pv 5) (pa_cons (pv 6) pa_nil))))))) pss_nil)
        (pss_cons (ps_set (i := 4) nd rfl (Or.inl rfl) (pe_ix ix_list (pv 8) (pe_op op_mod (pv 7) (pe_callB call_len_seq (by rfl) T.len PySem.boot_len (pa_cons (pv 8) pa_nil))) (fun _ _ => rfl)))
        (pss_cons (ps_set (i := 9) nd rfl (Or.inl rfl) (pe_call GN hr1 rfl cN.mgf cN.kp cN.b .nil pass0 (pa_cons (pv 0) (pa_cons (pv 3) (pa_cons (pv 4) pa_nil)))))
        (pss_cons (ps_if (pt_cmpR op_eq (pe_ix ix_tup (pv 9) pe_int (fun _ _ => rfl)) pe_str (nomark _)) (pss_one (ps_dput hu1 (pv 6) (pe_ix ix_tup (pv 9) pe_int (fun _ _ => rfl)) (pv 4) rfl)) pss_nil)
        (pss_cons (ps_if (pt_cmpR op_eq (pe_ix ix_tup (pv 9) pe_int (fun _ _ => rfl)) pe_str (nomark _)) (pss_one (ps_expr (pe_dpop1 (pv 6) (pe_ix ix_tup (pv 9) pe_int (fun _ _ => rfl)) ⟨rfl, rfl, rfl, rfl⟩))) pss_nil)
        (pss_cons (ps_if (pt_cmpR op_eq (pe_ix ix_tup (pv 9) pe_int (fun _ _ => rfl)) pe_str (nomark _)) (pss_one (ps_asg pe_bl (pg_sub (pv 5) (pe_ix ix_tup (pv 9) pe_int (fun _ _ => rfl)) set_list))) pss_nil)
        (pss_cons (ps_asg (pe_op op_add (pe_ix ix_list (pv 3) (pv 4) (fun _ _ => rfl)) pe_int) (pg_sub (pv 3) (pv 4) set_list))
        (pss_one (ps_if (pt_val (pe_call GK hr rfl cK.mgf cK.kp cK.b .nil pass0 (pa_cons (pv 0) (pa_cons (pv 3) (pa_cons (pv 5) (pa_cons (pv 6) pa_nil)))))) (pss_one (ps_ret pe_bl)) pss_nil)))))))))))
      (pss_one (ps_ret pe_bl))))), ?_⟩
    -- the places
    refine ⟨(by show 1 ≤ sizeLine; decide), fun l0 nl0 => ?_⟩
    have s0 := same_new (o := .lst [V.int 0]) nl0
    refine ⟨_, rfl, l0, (mn : Int), _, rfl, rfl, upd_same, by omega, by omega, (by show 1 * _ ≤ _; exact Nat.le_of_lt (small1000 (by omega))), fun p np => ?_⟩
    dsimp only [gName]
    have s1 := s0.trans (same_new (o := .lst (List.replicate ((mn : Nat) : Int).toNat [V.int 0]).flatten) np)
    have ep : upd (upd H l0 (.lst [V.int 0])) p (.lst (List.replicate ((mn : Nat) : Int).toNat [V.int 0]).flatten) p = some (.lst ((List.replicate mn 0).map vI)) := by
      rw [upd_same]
      show some (HO.lst (List.replicate mn [V.int 0]).flatten) = _
      rw [flat_zero]
    have np0 : H p = none := s0.free np
    generalize upd (upd H l0 (.lst [V.int 0])) p (.lst (List.replicate ((mn : Nat) : Int).toNat [V.int 0]).flatten) = H1 at s1 ep
    clear s0 nl0 np
    -- who is awake
    refine setComp_rangeF (n := mn) (fun _ => true) (fun i : Nat => V.bl (decide ((i : Int) = 0))) (fun Q' q => ⟨_, rfl, q⟩) (by omega) (fun D hD i ys Qt hi q => q) (fun D hD i ys Qe hi _ q => ⟨_, rfl, rfl, by rw [dec_int']; exact q⟩) (fun aw naw => ?_)
    rw [filt_true]
    have ea : upd H1 aw (.lst ((List.range mn).map fun i : Nat => V.bl (decide ((i : Int) = 0)))) aw = some (.lst (((List.range mn).map fun i : Nat => decide ((i : Int) = 0)).map V.bl)) := by rw [upd_same, List.map_map]; rfl
    have s2 := s1.trans (same_new (o := .lst ((List.range mn).map fun i : Nat => V.bl (decide ((i : Int) = 0)))) naw)
    have ep2 := (same_new (o := .lst ((List.range mn).map fun i : Nat => V.bl (decide ((i : Int) = 0)))) naw) _ _ ep
    have naw0 : H aw = none := s1.free naw
    have npa : p ≠ aw := ne_of_none ep naw
    generalize upd H1 aw (.lst ((List.range mn).map fun i : Nat => V.bl (decide ((i : Int) = 0)))) = H2 at s2 ea ep2
    clear s1 ep naw
    refine fun ho nho => ?_
    dsimp only [gName]
    have s3 := s2.trans (same_new (o := .dK []) nho)
    have eh : upd H2 ho (.dK []) ho = some (.dK []) := upd_same
    have ep3 := (same_new (o := .dK []) nho) _ _ ep2
    have ea3 := (same_new (o := .dK []) nho) _ _ ea
    have nho0 : H ho = none := s2.free nho
    have nph : p ≠ ho := ne_of_none ep2 nho
    have nah : aw ≠ ho := ne_of_none ea nho
    generalize upd H2 ho (.dK []) = H3 at s3 eh ep3 ea3
    clear s2 ep2 ea nho
    have RI0 : RunI mn ds (fun t => (List.replicate mn 0).getD t 0) (fun _ => none) := by
      rw [show (fun t => (List.replicate mn 0).getD t 0) = fun _ => 0 from funext fun t => replicate_getD mn t]
      exact RunI.start
    refine ⟨_, rfl, pk, rfl, ⟨_, s3.seq hpk⟩, for_list (K := K) (a := pk) (xs := ms.map V.int) (fun i σ HC => ∃ (as : List Nat) (bs : List Bool) (hold : Int → Option Int) (v4 v7 v8 v9 : Option V), σ = [some (.ref L), some (.int (mn : Int)), some (.ref pk), some (.ref p), v4, some (.ref aw), some (.ref ho), v7, v8, v9] ∧ Same H HC ∧ RnAt HC p aw ho mn as bs hold i ∧ RunI mn ds (fun t => as.getD t 0) hold)
      ⟨_, _, fun _ => none, none, none, none, none, rfl, s3, ⟨ep3, by rw [List.length_replicate], ea3, by rw [List.length_map, List.length_range], [], eh, Nat.le_refl _, fun x => rfl⟩, RI0⟩ (fun i σ HC _ ⟨_, _, _, _, _, _, _, _, sC, _⟩ => sC.seq hpk) ?_ (fun σ HC ⟨_, _, _, _, _, _, _, e, sC, _⟩ => by subst e; exact k false HC sC (fun z => nomatch z))⟩
    rintro i x σ HC hx ⟨as, bs, hold, v4, v7, v8, v9, rfl, sC, hR, RI⟩
    have hi100 : i < 100 := by
      have := (List.getElem?_eq_some_iff.mp hx).1
      rw [List.length_map] at this
      omega
    obtain ⟨pick, rfl⟩ : ∃ pick : Int, x = .int pick := by
      rw [List.getElem?_map] at hx
      obtain ⟨cl, _, e⟩ := Option.map_eq_some_iff.mp hx
      exact ⟨cl, e.symm⟩
    dsimp only [gName]
    have hLC := hL.same sC
    refine setComp_range (n := mn) (fun D j ys H' => Same HC H' ∧ ∃ sl : List Nat, ys = sl.map vI ∧ sl.length ≤ j ∧ ∀ t ∈ sl, t < mn ∧ ∃ d, nxD ds as t = some d ∧ (d.2.1 = W.take → hold d.2.2 = none)) (fun Q' q => ⟨_, rfl, q⟩) (by omega) (fun D hD => ⟨same_new hD, [], rfl, Nat.le_refl _, fun t ht => (by cases ht)⟩) (fun D hD j ys H' N hj ⟨s', sl, ey, ll, hs⟩ hd hys kT kF => ?_) (fun ab nab ys HA ⟨sA, sl, ey, ll, hs⟩ eab => ?_)
    · refine ⟨_, rfl, _, rfl, _, rfl, _, rfl, _, rfl, L, p, aw, ho, j, mn, ds, as, bs, hold, i, rfl, hLC.same s', hR.same s', hj, hlen, fa, fun b hb => ⟨b, rfl, ?_⟩⟩
      cases b with
      | false => exact iteF (kF H' hd ⟨s', sl, ey, by omega, hs⟩)
      | true =>
        refine iteT ⟨_, rfl, ys, hd, hys, kT (.int (j : Int)) H' ⟨s'.put2 hD, sl ++ [j], by rw [ey, List.map_append]; rfl, by rw [List.length_append, List.length_singleton]; omega, fun t ht => ?_⟩⟩
        rcases List.mem_append.mp ht with q | q
        · exact hs t q
        · rw [List.mem_singleton.mp q]; exact ⟨hj, hb rfl⟩
    rw [ey, chI_map] at eab
    have sCA := sC.trans sA
    refine PuS.ifs (c := chI sl = []) (pus_eqNil rfl (SqL.of eab)) (fun HB sB z => ?_) (fun HB sB z => ?_)
    · have sT := sCA.trans sB
      exact ⟨_, rfl, _, rfl, _, rfl, _, rfl, L, p, aw, ho, mn, ds, as, bs, hold, i, rfl, hL.same sT, hR.same (sA.trans sB), m6, hlen, RI, fun b hb => k b _ sT hb⟩
    have hl : 0 < sl.length := List.length_pos_iff.mpr fun e => z (by rw [e]; rfl)
    have sHB := sCA.trans sB
    have hRB := hR.same (sA.trans sB)
    have hLB := hL.same sHB
    have eabB := sB _ _ eab
    clear eab sCA hR hLC
    have h0 : 0 ≤ pick % (sl.length : Int) := Int.emod_nonneg _ (by omega)
    have h1 : pick % (sl.length : Int) < (sl.length : Int) := Int.emod_lt_of_pos _ (by omega)
    obtain ⟨j, ej⟩ : ∃ j : Nat, pick % (sl.length : Int) = (j : Int) := ⟨(pick % (sl.length : Int)).toNat, by omega⟩
    have hj : j < sl.length := by omega
    obtain ⟨ht, d, ed, hfree⟩ := hs sl[j] (List.getElem_mem hj)
    have lch : ((chI sl).map V.int).length = sl.length := by rw [List.length_map, List.length_map]
    have gj : ((chI sl).map V.int)[j]? = some (.int ((sl[j] : Nat) : Int)) := by rw [← chI_map, List.getElem?_map, List.getElem?_eq_getElem hj]; rfl
    generalize sl[j] = t at ht ed hfree gj
    refine ⟨_, rfl, _, rfl, _, rfl, ab, _, rfl, .inl (SqL.of eabB), _, _, rfl, rfl, (by rw [lch]; omega), ab, _, (j : Int), .int (t : Int), rfl, by rw [lch]; show V.int (pick % (sl.length : Int)) = _; rw [ej], SqL.of eabB, atI_nat gj, ?_⟩
    dsimp only [gName]
    refine ⟨_, rfl, _, rfl, _, rfl, L, p, t, mn, ds, as, rfl, hLB, hRB.ep, hRB.la, ht, hlen, fun e => (by rw [ed] at e; cases e), fun d' r e er => ?_⟩
    rw [ed] at e
    cases e
    dsimp only [gName]
    have own1 : d.1 = (t : Int) := own_fst (ats := fun t => as.getD t 0) ed
    have hat : t < as.length := by rw [hRB.la]; exact ht
    have tst : ∀ {Hx : Hp} {wd : Str} {Qt : Bool → Hp → Prop}, Hx r = some (tupA d) → Qt (decide (d.2.1 = wd)) Hx → ∃ (y : V), True := fun _ _ => ⟨.non, trivial⟩
    clear tst
    refine PuT.ifsJ (c := d.2.1 = W.take) (fun σ' H' => σ' = [some (.ref L), some (.int (mn : Int)), some (.ref pk), some (.ref p), some (.int (t : Int)), some (.ref aw), some (.ref ho), some (.int pick), some (.ref ab), some (.ref r)] ∧ Same H H' ∧ H' r = some (tupA d) ∧ RnAt H' p aw ho mn as bs (if d.2.1 = W.take then fun x => if x = d.2.2 then some (t : Int) else hold x else hold) (i + 1))
      (fun Qt q => ⟨_, rfl, r, _, 1, .str d.2.1, rfl, rfl, SqT.of er, rfl, rfl, _, rfl, by rw [dec_str']; exact q⟩) (fun z N hN => ?_) (fun z => ⟨rfl, sHB, er, by rw [if_neg z]; exact hRB.le (by omega)⟩) ?_
    · obtain ⟨kvs, eh', lk, vk⟩ := hRB.eh
      refine ⟨_, rfl, _, rfl, _, rfl, r, _, 2, .int d.2.2, rfl, rfl, SqT.of er, rfl, ho, _, rfl, DPut.k (k := Sum.inl d.2.2) eh' (small1000 (by omega)), ?_⟩
      have nrh : r ≠ ho := ne_of er eh' (fun z => nomatch z)
      refine hN _ _ ⟨rfl, sHB.put2 nho0, by rw [upd_ne nrh]; exact er, by rw [upd_ne nph]; exact hRB.ep, hRB.la, by rw [upd_ne nah]; exact hRB.ea, hRB.lb, _, upd_same, Nat.le_trans (length_putK _ _ _) (by omega), fun y => ?_⟩
      rw [valV_put, if_pos z]
      by_cases q : y = d.2.2
      · rw [if_pos (inl_inj.mpr q), if_pos q]; rfl
      · rw [if_neg (fun e => q (inl_inj.mp e)), if_neg q]; exact vk y
    rintro σ1 H4 ⟨rfl, s4, er4, hR4⟩
    refine PuT.ifsJ (c := d.2.1 = W.give) (fun σ' H' => σ' = [some (.ref L), some (.int (mn : Int)), some (.ref pk), some (.ref p), some (.int (t : Int)), some (.ref aw), some (.ref ho), some (.int pick), some (.ref ab), some (.ref r)] ∧ Same H H' ∧ H' r = some (tupA d) ∧ ∃ h2 : Int → Option Int, RnAt H' p aw ho mn as bs h2 (i + 1) ∧ RunI mn ds (RC.bump (fun t => as.getD t 0) t) h2)
      (fun Qt q => ⟨_, rfl, r, _, 1, .str d.2.1, rfl, rfl, SqT.of er4, rfl, rfl, _, rfl, by rw [dec_str']; exact q⟩) (fun z N hN => ?_) (fun z => ⟨rfl, s4, er4, _, hR4, ?_⟩) ?_
    · have nt : ¬ d.2.1 = W.take := by rw [z]; decide +kernel
      rw [if_neg nt] at hR4
      have hg := RunI.gives (ats := fun t => as.getD t 0) fa RI ht ed z
      obtain ⟨kvs, eh', lk, vk⟩ := hR4.eh
      have vi : valV kvs (Sum.inl d.2.2) = some (V.int (t : Int)) := by rw [vk d.2.2, hg]; rfl
      have nrh : r ≠ ho := ne_of er4 eh' (fun z => nomatch z)
      refine ⟨_, rfl, ho, rfl, .inl ⟨kvs, .inl eh'⟩, _, rfl, r, _, 2, .int d.2.2, rfl, rfl, SqT.of er4, rfl, kvs, Sum.inl d.2.2, V.int (t : Int), eh', rfl, vi, ?_⟩
      refine hN _ _ ⟨rfl, s4.put2 nho0, by rw [upd_ne nrh]; exact er4, fun x => if x = d.2.2 then none else hold x, ⟨by rw [upd_ne nph]; exact hR4.ep, hR4.la, by rw [upd_ne nah]; exact hR4.ea, hR4.lb, _, upd_same, ?_, fun y => ?_⟩, RunI.give (ats := fun t => as.getD t 0) RI ht ed z hg⟩
      · have : (dropK kvs (Sum.inl d.2.2 : Key)).length ≤ kvs.length := List.length_filter_le _ _
        omega
      · rw [valV_drop]
        by_cases q : y = d.2.2
        · rw [if_pos (inl_inj.mpr q), if_pos q]; rfl
        · rw [if_neg (fun e => q (inl_inj.mp e)), if_neg q]; exact vk y
    · by_cases zt : d.2.1 = W.take
      · rw [if_pos zt]
        exact RunI.take (ats := fun t => as.getD t 0) RI ht ed zt (hfree zt)
      · rw [if_neg zt]
        exact RunI.other (ats := fun t => as.getD t 0) RI ed zt z
    clear hR4 er4 s4 RI hRB sHB hLB er eabB gj
    rintro σ1 H4 ⟨rfl, s4, er4, h2, hR4, RI4⟩
    refine PuT.ifsJ (c := d.2.1 = W.fork) (fun σ' H' => σ' = [some (.ref L), some (.int (mn : Int)), some (.ref pk), some (.ref p), some (.int (t : Int)), some (.ref aw), some (.ref ho), some (.int pick), some (.ref ab), some (.ref r)] ∧ Same H H' ∧ ∃ bs' : List Bool, RnAt H' p aw ho mn as bs' h2 (i + 1))
      (fun Qt q => ⟨_, rfl, r, _, 1, .str d.2.1, rfl, rfl, SqT.of er4, rfl, rfl, _, rfl, by rw [dec_str']; exact q⟩) (fun z N hN => ?_) (fun z => ⟨rfl, s4, bs, hR4⟩) ?_
    · obtain ⟨x0, xm⟩ := thing_of fa (nx_mem ed) (.inl z)
      obtain ⟨u, eu⟩ : ∃ u : Nat, d.2.2 = (u : Int) := ⟨d.2.2.toNat, by omega⟩
      have hum : u < mn := by omega
      have er' : H4 r = some (.tup [.int d.1, .str d.2.1, .int (u : Int)]) := by rw [← eu]; exact er4
      obtain ⟨kvs, eh', lk, vk⟩ := hR4.eh
      refine ⟨_, rfl, _, rfl, r, _, 2, .int (u : Int), rfl, rfl, SqT.of er', rfl, aw, _, _, u, rfl, rfl, hR4.ea, ixN_nat' (by rw [List.length_map, hR4.lb]; exact hum), ?_⟩
      refine hN _ _ ⟨rfl, s4.put2 naw0, bs.set u true, by rw [upd_ne npa]; exact hR4.ep, hR4.la, by rw [upd_same, List.map_set], by rw [List.length_set]; exact hR4.lb, kvs, by rw [upd_ne nah.symm]; exact eh', lk, vk⟩
    clear hR4 er4 s4
    rintro σ1 H4 ⟨rfl, s4, bs', hR4⟩
    obtain ⟨kvs, eh', lk, vk⟩ := hR4.eh
    have e2 : atI (as.map vI) (t : Int) = some (vI (as.getD t 0)) := atI_nat (by rw [List.getElem?_map, getD_get (d := 0) hat]; rfl)
    refine ⟨_, rfl, _, rfl, p, _, _, _, rfl, rfl, SqL.of hR4.ep, e2, _, _, rfl, rfl, _, rfl, _, rfl, p, _, _, t, rfl, rfl, hR4.ep, ixN_nat' (by rw [List.length_map]; exact hat), ?_⟩
    have hR5 : RnAt (upd H4 p (.lst ((as.map vI).set t (V.int (((as.getD t 0 : Nat) : Int) + 1))))) p aw ho mn (as.set t (as.getD t 0 + 1)) bs' h2 (i + 1) :=
      ⟨by rw [upd_same, List.map_set]; rfl, by rw [List.length_set]; exact hR4.la, by rw [upd_ne npa.symm]; exact hR4.ea, hR4.lb, kvs, by rw [upd_ne nph.symm]; exact eh', lk, vk⟩
    have s5 : Same H (upd H4 p (.lst ((as.map vI).set t (V.int (((as.getD t 0 : Nat) : Int) + 1))))) := s4.put2 np0
    have RI5 : RunI mn ds (fun u => (as.set t (as.getD t 0 + 1)).getD u 0) h2 := by rw [set_bump (v := 0) hat]; exact RI4
    generalize upd H4 p (.lst ((as.map vI).set t (V.int (((as.getD t 0 : Nat) : Int) + 1)))) = H5 at hR5 s5
    refine ⟨_, rfl, _, rfl, _, rfl, _, rfl, L, p, aw, ho, mn, ds, _, bs', h2, i + 1, rfl, hL.same s5, hR5, m6, hlen, RI5, fun b hb => ⟨b, rfl, ?_⟩⟩
    cases b with
    | false => exact iteF ⟨_, bs', h2, _, _, _, _, rfl, s5, hR5, RI5⟩
    | true => exact iteT (k true _ s5 hb)
end
end K
namespace K
open PySem L2 RC
def spPicks (K : PySem.W.Frag) : Sp := fun vs H Q _ => ∃ (a : Addr) (way : Nat) (ns : List Int), vs = [.ref a, .int (way : Int)] ∧ SqL K H a (ns.map V.int) ∧ ns.length ≤ 63 ∧ way < 3 ∧
  ∀ (r : Addr) (ms : List Int) (H' : Hp), Same H H' → H r = none → H' r = some (.lst (ms.map V.int)) → ms.length ≤ 60 → Q (.ref r) H'
abbrev nPk : List Str := ["_law_script", "_law_way", "_law_picks_here", "_law_number", "_law_k", "_law_cell_here"]
section
variable {P : Program} {w : World} {K : PySem.W.Frag} {mg : Str → Option Value} {base : Heap}
theorem scPk : FnScope nPk ["_law_script", "_law_way"] (defScope s__law_picks) := ⟨rfl, rfl, rfl, by decide +kernel, rfl, by decide +kernel, by decide +kernel⟩
theorem ok_picks {f C aW aT fC : Addr} {fd fdC : FuncData} (F : Fun K "_law_picks" "_law_picks" s__law_picks f fd) (T : Txt K mg C aW aT)
    (GC : FnOk P w K mg base CX0 1 fC fdC ["_law_script", "_law_k"] (spCell K)) (cC : Cal K mg "_law_cell" fC fdC ["_law_script", "_law_k"]) : FnOk P w K mg base CX0 2 f fd ["_law_script", "_law_way"] (spPicks K) := by
  refine F.ok scPk (fun vs H Q E h => ?_) (fun cdv A outer s H vs Q E hr h => ?_)
  · obtain ⟨a, way, ns, rfl, _⟩ := h
    rfl
  · obtain ⟨a, way, ns, rfl, hS, hlen, hw, k⟩ := h
    have nd := scPk.nd
    refine ⟨_, pss_cons (ps_set (i := 2) nd rfl (Or.inl rfl) (pe_lst pa_nil))
      (pss_cons (ps_set (i := 3) nd rfl (Or.inl rfl) (pe_op op_add pe_int (pv 1)))
      (pss_cons (ps_for PassesOwn.never rfl (pi_range1 rfl T.rng (pa_cons pe_int pa_nil)) (pg_name (i := 4) nd rfl (Or.inl rfl))
        (pss_cons (ps_set (i := 5) nd rfl (Or.inl rfl) pe_int)
        (pss_cons (ps_if (pt_cmpR op_gt (pe_callB call_len_seq (by rfl) T.len PySem.boot_len (pa_cons (pv 0) pa_nil)) pe_int (nomark _)) (pss_one (ps_set (i := 5) nd rfl (Or.inl rfl) (pe_call GC hr rfl cC.mgf cC.kp cC.b .nil pass0 (pa_cons (pv 0) (pa_cons (pe_op op_mod (pv 4) (pe_callB call_len_seq (by rfl) T.len PySem.boot_len (pa_cons (pv 0) pa_nil))) pa_nil))))) pss_nil)
        (pss_cons (ps_set (i := 3) nd rfl (Or.inl rfl) (pe_op op_mod (pe_op op_add (pe_op op_add (pe_op op_mul (pv 3) pe_int) (pv 5)) (pv 4)) pe_int))
        (pss_one (ps_expr (pe_bm PySem.F.plainAttrs_list PySem.F.slot_list_append PySem.F.type_list_append mt_append (pv 2) (pa_cons (pe_ix ix_list (pe_lst (pa_cons (pe_op op_fdiv (pv 5) (pe_op op_add pe_int (pe_op op_fdiv (pv 4) pe_int))) (pa_cons (pe_op op_fdiv (pv 3) pe_int) (pa_cons (pe_op op_fdiv (pe_op op_fdiv (pv 3) pe_int) pe_int) pa_nil)))) (pv 1) (fun _ _ => rfl)) pa_nil))))))))
      (pss_one (ps_ret (pv 2))))), ?_⟩
    refine ⟨Nat.zero_le _, fun l nl => ?_⟩
    dsimp only [gName]
    have s1 := same_new (o := .lst []) nl
    have el : upd H l (.lst []) l = some (.lst []) := upd_same
    generalize upd H l (.lst []) = H1 at s1 el
    refine ⟨_, rfl, _, _, rfl, rfl, ?_⟩
    dsimp only [gName]
    refine ⟨_, rfl, by decide, by decide, for_range (lo := 0) (n := (60 : Int).toNat) (fun i σ HC => ∃ (nu : Int) (ms : List Int) (v4 v5 : Option V), σ = [some (.ref a), some (.int (way : Int)), some (.ref l), some (.int nu), v4, v5] ∧ Same H HC ∧ HC l = some (.lst (ms.map V.int)) ∧ ms.length ≤ i)
      ⟨_, [], none, none, rfl, s1, el, Nat.le_refl _⟩ ?_ (fun σ HC ⟨nu, ms, _, _, e, sC, eC, lm⟩ => by subst e; exact ⟨_, rfl, k l ms HC sC nl eC lm⟩)⟩
    rintro i σ HC hi ⟨nu, ms, v4, v5, rfl, sC, eC, lm⟩
    have hi60 : i < 60 := hi
    have e0 : (0 : Int) + (i : Int) = (i : Int) := by omega
    rw [e0]
    dsimp only [gName]
    refine seq_asgC ?_
    refine PuT.ifsJ (c := 0 < ns.length) (fun σ' H' => ∃ c : Int, σ' = [some (.ref a), some (.int (way : Int)), some (.ref l), some (.int nu), some (.int (i : Int)), some (.int c)] ∧ H' = HC)
      (fun Qt q => ⟨_, rfl, a, _, rfl, .inl (sC.seq hS), _, _, rfl, rfl, _, rfl, by
        rw [List.length_map]
        have : decide (((ns.length : Nat) : Int) > 0) = decide (0 < ns.length) := by rw [decide_eq_decide]; omega
        rw [this]
        exact q⟩) (fun z N hN => ?_) (fun z => ⟨0, rfl, rfl⟩) ?_
    · refine ⟨_, rfl, _, rfl, _, rfl, a, _, rfl, .inl (sC.seq hS), _, _, rfl, rfl, (by rw [List.length_map]; omega), a, _, ns, rfl, sC.seq hS, ?_, fun c hc => hN _ _ ⟨c, rfl, rfl⟩⟩
      exact Int.emod_nonneg _ (by rw [List.length_map]; omega)
    rintro σ' H' ⟨c, rfl, rfl⟩
    refine ⟨_, rfl, _, _, rfl, rfl, .inr ⟨by decide, by decide⟩, _, rfl, _, _, rfl, rfl, _, rfl, _, _, rfl, rfl, _, _, rfl, rfl, (by show (0 : Int) < 2147483647; decide), ?_⟩
    dsimp only [gName]
    generalize (nu * 48271 + c + (i : Int)) % 2147483647 = n2
    refine ⟨_, rfl, .inl ⟨rfl, _, SqL.of eC⟩, ?_⟩
    obtain ⟨x, gx⟩ : ∃ x : Int, atI [V.int (c / (1 + (i : Int) / 9)), V.int (n2 / 7), V.int (n2 / 1009 / 3)] (way : Int) = some (.int x) := by
      rcases (by omega : way = 0 ∨ way = 1 ∨ way = 2) with rfl | rfl | rfl
      · exact ⟨_, rfl⟩
      · exact ⟨_, rfl⟩
      · exact ⟨_, rfl⟩
    refine ⟨_, rfl, _, rfl, _, _, rfl, rfl, ⟨by decide, by decide⟩, _, _, rfl, rfl, _, _, rfl, rfl, ⟨by show (0 : Int) < 1 + (i : Int) / 9; omega, by show 1 + (i : Int) / 9 < 1073741824; omega⟩, _, rfl, _, _, rfl, rfl, ⟨by decide, by decide⟩, _, rfl, _, _, rfl, rfl, ⟨by decide, by decide⟩, _, _, rfl, rfl, ⟨by decide, by decide⟩, (by show 3 ≤ sizeLine; decide), fun q1 nq1 => ?_⟩
    have u1 := same_new (o := .lst [V.int (c / (1 + (i : Int) / 9)), V.int (n2 / 7), V.int (n2 / 1009 / 3)]) nq1
    refine ⟨_, rfl, q1, _, _, .int x, rfl, rfl, SqL.of upd_same, gx, l, _, _, rfl, rfl, u1 _ _ eC, small1000 (by rw [List.length_map]; omega), ?_⟩
    exact ⟨_, ms ++ [x], _, _, rfl, (sC.trans u1).put2 nl, by rw [upd_same, List.map_append]; rfl, by rw [List.length_append, List.length_singleton]; omega⟩
end
end K
namespace K
open PySem L2 RC
abbrev nLaw : List Str := ["_law_script", "_law_head", "_law_many", "_law_deeds_here", "_law_lines", "_law_row", "_law_way"]
theorem ndTD : (["_law_thread", "_law_deeds_here"] : List Str).Nodup := by decide +kernel
theorem ndDT : (["_law_deed", "_law_thread"] : List Str).Nodup := by decide +kernel
theorem comp_own {K : PySem.W.Frag} {fr : List Nat} {σ : St} {H1 : Hp} {Q : VK} {l : Addr} {xs : List V} {ds : List Deed} {t : Nat} (hl : SqL K H1 l xs) (hd : Deeds H1 xs ds) (h60 : ds.length ≤ 60) (hv : frV fr σ = [some (.int (t : Int))])
    (fin : ∀ D ys H', H1 D = none → Same H1 H' → H' D = some (.lst ys) → Deeds H' ys (linesT ds t) → Q (.ref D) H') :
    CompG K 1 fr (gName 0) (tTest (tOp rEq (tOp (rIxT K) (tVar 0) (tC (.int 0))) (tVar 1))) (tVar 0) σ H1 Q l := by
  have hxl := hd.len
  refine comp_listG (xs := xs) (fun D i ys H' => Same H1 H' ∧ Deeds H' ys ((ds.take i).filter (own t))) (small1000 (by omega)) (fun D hD => ⟨same_new hD, Deeds.nil⟩) (fun D i ys H' hD ⟨s, _⟩ => s.seq hl)
    (fun D i x ys H' o N hD hx ho ⟨s, hP⟩ hdd hys kT kF => ?_) (fun D ys H' hD ⟨s, hP⟩ e => fin D ys H' hD s e (by rw [hxl, List.take_length] at hP; exact hP))
  obtain ⟨r, a, wd, z, rfl, er, ed⟩ := (hd.same s).get hx
  have htk : ds.take (i + 1) = ds.take i ++ [(a, wd, z)] := take_snoc ed
  match o, ho with
  | [o1], _ =>
    rw [hv]
    refine ⟨_, rfl, r, _, 0, .int a, rfl, rfl, SqT.of er, rfl, _, rfl, rfl, _, rfl, ?_⟩
    rw [dec_int']
    by_cases e : a = (t : Int)
    · rw [decide_eq_true e]
      refine iteT ⟨_, rfl, ys, hdd, hys, ?_⟩
      have ts : TSame H' (upd H' D (.lst (ys ++ [.ref r]))) := tsame_lst hdd
      have := kT [some (.ref r)] (.ref r) H' rfl ⟨s.put2 hD, by
        rw [htk, List.filter_append, show List.filter (own t) [(a, wd, z)] = [(a, wd, z)] by simp [own, e]]
        exact (hP.tsame ts).snoc ⟨r, _, _, _, rfl, ts _ _ er⟩ (deedOf_ref (ts _ _ er))⟩
      rw [hv] at this
      exact this
    · rw [decide_eq_false e]
      have := kF [some (.ref r)] H' rfl hdd ⟨s, by
        rw [htk, List.filter_append, show List.filter (own t) [(a, wd, z)] = [] by simp [own, e], List.append_nil]
        exact hP⟩
      rw [hv] at this
      exact iteF this
section
variable {P : Program} {w : World} {K : PySem.W.Frag} {mg : Str → Option Value} {base : Heap}
theorem scLaw : FnScope nLaw ["_law_script"] (defScope sLaw) := ⟨rfl, rfl, rfl, by decide +kernel, rfl, by decide +kernel, by decide +kernel⟩
theorem ok_law {f C aW aT CR fC fD fB fK fI fG fR fP fU : Addr} {fd fdC fdD fdB fdK fdI fdG fdR fdP fdU : FuncData} (F : Fun K "law" "law" sLaw f fd) (T : Txt K mg C aW aT) (R : TxtR K mg CR)
    (GC : FnOk P w K mg base CX0 1 fC fdC ["_law_script", "_law_k"] (spCell K)) (cC : Cal K mg "_law_cell" fC fdC ["_law_script", "_law_k"])
    (GD : FnOk P w K mg base CX0 2 fD fdD ["_law_script", "_law_many", "_law_most"] (spDeeds K)) (cD : Cal K mg "_law_deeds" fD fdD ["_law_script", "_law_many", "_law_most"])
    (GB : FnOk P w K mg base CX0 2 fB fdB ["_law_script", "_law_many"] (spBlocks K)) (cB : Cal K mg "_law_blocks" fB fdB ["_law_script", "_law_many"])
    (GK : FnOk P w K mg base CX0 2 fK fdK ["_law_many", "_law_deeds_here"] (spLocks K)) (cK : Cal K mg "_law_locks" fK fdK ["_law_many", "_law_deeds_here"])
    (GI : FnOk P w K mg base CX0 5 fI fdI ["self", "many", "deeds"] (spRow K CR)) (bI : Binds K fdI ["self", "many", "deeds"] []) (M : Mk K CR fI)
    (GG : FnOk P w K mg base CX0 4 fG fdG ["row"] (spRing CR)) (cG : Cal K mg "ring" fG fdG ["row"])
    (GR : FnOk P w K mg base CX0 2 fR fdR ["_law_found", "_law_deeds_here", "_law_locks_here"] (spRinged K)) (cR : Cal K mg "_law_ringed" fR fdR ["_law_found", "_law_deeds_here", "_law_locks_here"])
    (GP : FnOk P w K mg base CX0 2 fP fdP ["_law_script", "_law_way"] (spPicks K)) (cP : Cal K mg "_law_picks" fP fdP ["_law_script", "_law_way"])
    (GU : FnOk P w K mg base CX0 3 fU fdU ["_law_lines", "_law_many", "_law_picks_here"] (spCR K)) (cU : Cal K mg "_law_comes_round" fU fdU ["_law_lines", "_law_many", "_law_picks_here"]) :
    FnOk P w K mg base CX0 7 f fd ["_law_script"] (spLaw K) := by
  refine F.ok scLaw (fun vs H Q E h => ?_) (fun cdv A outer s H vs Q E hr h => ?_)
  · obtain ⟨a, ns, rfl, _⟩ := h
    rfl
  · obtain ⟨a, ns, rfl, hS, hlen, k⟩ := h
    have nd := scLaw.nd
    have hr1 : Room 1 _ := hr.mono (by decide)
    have hr2 : Room 2 _ := hr.mono (by decide)
    have hr3 : Room 3 _ := hr.mono (by decide)
    have hr4 : Room 4 _ := hr.mono (by decide)
    refine ⟨_, pss_cons (ps_set (i := 1) nd rfl (Or.inl rfl) (pe_call GC hr1 rfl cC.mgf cC.kp cC.b .nil pass0 (pa_cons (pv 0) (pa_cons pe_int pa_nil))))
      (pss_cons (ps_set (i := 2) nd rfl (Or.inl rfl) (pe_op op_add pe_int (pe_op op_mod (pv 1) pe_int)))
      (pss_cons (ps_set (i := 3) nd rfl (Or.inr rfl) (pe_call GD hr2 rfl cD.mgf cD.kp cD.b .nil pass0 (pa_cons (pv 0) (pa_cons (pv 2) (pa_cons pe_int pa_nil)))))
      (pss_cons (ps_if (pt_cmpR op_gt (pe_op op_mod (pe_op op_fdiv (pv 1) pe_int) pe_int) pe_int (nomark _))
        (pss_cons (ps_set (i := 2) nd rfl (Or.inl rfl) (pe_op op_add pe_int (pe_op op_mod (pv 1) pe_int)))
        (pss_one (ps_set (i := 3) nd rfl (Or.inr rfl) (pe_call GB hr2 rfl cB.mgf cB.kp cB.b .nil pass0 (pa_cons (pv 0) (pa_cons (pv 2) pa_nil)))))) pss_nil)
      (pss_cons (ps_setCompN (x := "_law_thread") (i := 4) (N := ["_law_thread", "_law_deeds_here"]) (nt := 1) (fr := [3]) (te := tComp 1 [0] (iList K (tVar 1)) (gName 0) (tTest (tOp rEq (tOp (rIxT K) (tVar 0) (tC (.int 0))) (tVar 1))) (tVar 0)) nd rfl (Or.inl rfl) rfl
          (.of (XN := nLaw) (osc := defScope sLaw) rfl rfl rfl (by decide +kernel) rfl (fun _ _ => rfl) (fun _ => rfl) (by decide +kernel) (by decide +kernel) rfl (by decide +kernel)) (pi_range1 rfl T.rng (pa_cons (pv 2) pa_nil))
          (fun _ _ _ _ _ _ _ => ⟨pg_name (i := 0) ndTD rfl (Or.inr rfl) (.inl (show decide (("_law_thread" : Str) = "_law_thread") = true from decide_eq_true rfl)), pif_nil, pe_comp (N := ["_law_deed", "_law_thread"]) (nt := 1) (fr := [0]) (tt := tTest (tOp rEq (tOp (rIxT K) (tVar 0) (tC (.int 0))) (tVar 1))) (te := tVar 0) rfl
              (.ofR (XN := ["_law_thread", "_law_deeds_here"]) (osc := defScope sLaw) rfl rfl rfl (by decide +kernel) (by decide +kernel) (by decide +kernel) rfl (by decide +kernel)) (pi_list (pv 1))
              (fun _ _ _ _ _ _ => ⟨pg_name (i := 0) ndDT rfl (Or.inl rfl), pif_one (pt_cmpR op_eq (pe_ix ix_tup (pv 0) pe_int (fun _ _ => rfl)) (pv 1) (nomark _)), pv 0⟩)⟩))
      (pss_cons (ps_set (i := 5) nd rfl (Or.inl rfl) (pe_make M GI hr rfl R.mgR bI .nil pass0 (pa_cons (pv 2) (pa_cons (pe_callTy call_list_of rfl T.lst bList (pa_cons (pv 3) pa_nil)) pa_nil))))
      (pss_cons (ps_for PassesOwn.never rfl (pi_range1 rfl T.rng (pa_cons pe_int pa_nil)) (pg_name (i := 6) nd rfl (Or.inl rfl))
        (pss_one (ps_if (pt_val (pe_call GU hr3 rfl cU.mgf cU.kp cU.b .nil pass0 (pa_cons (pv 4) (pa_cons (pv 2) (pa_cons (pe_call GP hr2 rfl cP.mgf cP.kp cP.b .nil pass0 (pa_cons (pv 0) (pa_cons (pv 6) pa_nil))) pa_nil)))))
          (pss_one (ps_if (pt_not (pt_val (pe_call GR hr2 rfl cR.mgf cR.kp cR.b .nil pass0 (pa_cons (pe_call GG hr4 rfl cG.mgf cG.kp cG.b .nil pass0 (pa_cons (pv 5) pa_nil)) (pa_cons (pv 3) (pa_cons (pe_call GK hr2 rfl cK.mgf cK.kp cK.b .nil pass0 (pa_cons (pv 2) (pa_cons (pv 3) pa_nil))) pa_nil)))))) (pss_one (ps_ret pe_bl)) pss_nil)) pss_nil)))
      (pss_one (ps_ret pe_bl)))))))), ?_⟩
    refine ⟨_, rfl, a, 0, ns, rfl, hS, by decide, fun hd hd0 => ?_⟩
    dsimp only [gName]
    refine ⟨_, rfl, _, _, rfl, rfl, (by show (0 : Int) < 6; decide), _, _, rfl, rfl, ?_⟩
    dsimp only [gName]
    obtain ⟨mn, emn, m1, m6⟩ : ∃ mn : Nat, 1 + hd % 6 = (mn : Int) ∧ 1 ≤ mn ∧ mn ≤ 6 := ⟨(1 + hd % 6).toNat, by omega, by omega, by omega⟩
    rw [emn]
    refine ⟨_, rfl, _, rfl, a, mn, ns, rfl, hS, hlen, m1, m6, fun l xs ds H1 s1 nl el hds hl60 fa => ?_⟩
    dsimp only [gName]
    refine PuT.ifsJ (c := hd / 18 % 3 > 0) (fun σ' H' => ∃ (mn : Nat) (l : Addr) (xs : List V) (ds : List Deed), σ' = [some (.ref a), some (.int hd), some (.int (mn : Int)), some (.ref l), none, none, none] ∧ Same H H' ∧ 1 ≤ mn ∧ mn ≤ 6 ∧ H' l = some (.lst xs) ∧ Deeds H' xs ds ∧ ds.length ≤ 60 ∧ Fault (mn : Int) ds none)
      (fun Qt q => ⟨_, rfl, _, _, rfl, rfl, ⟨by decide, by decide⟩, _, _, rfl, rfl, (by show (0 : Int) < 3; decide), _, _, rfl, rfl, _, rfl, q⟩) (fun z N hN => ?_) (fun z => ⟨mn, l, xs, ds, rfl, s1, m1, m6, el, hds, hl60, fa⟩) ?_
    · refine ⟨_, rfl, _, _, rfl, rfl, (by show (0 : Int) < 3; decide), _, _, rfl, rfl, ?_⟩
      dsimp only [gName]
      obtain ⟨m', em', a1, a6⟩ : ∃ m' : Nat, 2 + hd % 3 = (m' : Int) ∧ 1 ≤ m' ∧ m' ≤ 6 := ⟨(2 + hd % 3).toNat, by omega, by omega, by omega⟩
      rw [em']
      exact ⟨_, rfl, _, rfl, a, m', ns, rfl, s1.seq hS, hlen, a1, a6, fun l' xs' ds' H' s' nl' el' hd' h60' fa' => hN _ _ ⟨m', l', xs', ds', rfl, s1.trans s', a1, a6, el', hd', h60', fa'⟩⟩
    clear nl el hds hl60 fa s1 m1 m6 emn
    rintro σ' H1 ⟨mn, l, xs, ds, rfl, s1, m1, m6, el, hds, hl60, fa⟩
    refine setComp_range (n := mn) (fun D j ys H' => Same H1 H' ∧ ∃ rs : List Addr, ys = rs.map V.ref ∧ rs.length = j ∧ ∀ (t : Nat) (b : Addr), rs[t]? = some b → b ≠ D ∧ ∃ zs, H' b = some (.lst zs) ∧ Deeds H' zs (linesT ds t)) (fun Q' q => ⟨_, rfl, q⟩) (by omega) (fun D hD => ⟨same_new hD, [], rfl, rfl, fun t b e => by simp at e⟩) (fun D hD j ys H' N hj ⟨s', rs, ey, lr, hv⟩ hdd hys kT kF => ?_) (fun L nL ys H2 ⟨s2, rs, ey, lr, hv⟩ eL => ?_)
    · dsimp only [tYes]
      rw [if_pos rfl, tComp_iff]
      refine ⟨_, rfl, l, rfl, ⟨_, SqL.of (s' _ _ el)⟩, comp_own (t := j) (SqL.of (s' _ _ el)) (hds.same s') hl60 rfl (fun D2 zs H3 nD2 s3 eD2 hz => ?_)⟩
      have nDD : D2 ≠ D := fun z => by rw [z, hdd] at nD2; cases nD2
      have hdd3 := s3 _ _ hdd
      have ts : TSame H3 (upd H3 D (.lst (ys ++ [.ref D2]))) := tsame_lst hdd3
      refine ⟨ys, hdd3, hys, kT (.ref D2) H3 ⟨(s'.trans s3).put2 hD, rs ++ [D2], by rw [ey, List.map_append]; rfl, by rw [List.length_append, lr]; rfl, fun t b e => ?_⟩⟩
      by_cases et : t < rs.length
      · rw [List.getElem?_append_left et] at e
        obtain ⟨nb, zs', e1, e2⟩ := hv t b e
        exact ⟨nb, zs', by rw [upd_ne nb]; exact s3 _ _ e1, (e2.same s3).tsame ts⟩
      · rw [List.getElem?_append_right (by omega)] at e
        have ej : t - rs.length = 0 := by
          have := (List.getElem?_eq_some_iff.mp e).1
          simpa using this
        rw [ej] at e
        have eb : D2 = b := by simpa using e
        rw [← eb, show t = j by omega]
        exact ⟨nDD, zs, by rw [upd_ne nDD]; exact eD2, hz.tsame ts⟩
    have hL2 : LnAt H2 L mn ds := ⟨rs, by rw [eL, ey], lr, fun t b e => (hv t b e).2⟩
    have el2 := s2 _ _ el
    have hd2 := hds.same s2
    refine ⟨_, rfl, _, rfl, l, xs, rfl, .inl (SqL.of el2), fun a6 na6 => ?_⟩
    have s6 : Same H2 (upd H2 a6 (.lst xs)) := same_new na6
    have e6 : upd H2 a6 (.lst xs) a6 = some (.lst xs) := upd_same
    generalize upd H2 a6 (.lst xs) = H6 at s6 e6
    refine fun p dx0 np ndx0 _ => row_made np ndx0 (SqL.of e6) (hd2.same s6) (by omega) (by omega) hl60 fa fun H7 s7 rp => ⟨rfl, ?_⟩
    dsimp only [gName]
    have s27 := s6.trans s7
    have el7 := s27 _ _ el2
    have hd7 := hd2.same s27
    have hL7 := hL2.same s27
    have s07 := s1.trans (s2.trans s27)
    clear el el2 hds hd2 hL2 s27 s6 s7 e6 s2 eL ey hv
    refine ⟨_, rfl, by decide, by decide, for_range (lo := 0) (n := (3 : Int).toNat) (fun i σ HC => ∃ (v6 : Option V), σ = [some (.ref a), some (.int hd), some (.int (mn : Int)), some (.ref l), some (.ref L), some (.ref p), v6] ∧ Same H7 HC)
      ⟨none, rfl, Same.refl _⟩ ?_ (fun σ HC ⟨_, e, sC⟩ => by subst e; exact k HC)⟩
    rintro i σ HC hi ⟨v6, rfl, sC⟩
    have hi3 : i < 3 := hi
    have e0 : (0 : Int) + (i : Int) = (i : Int) := by omega
    rw [e0]
    dsimp only [gName]
    refine ⟨_, rfl, _, rfl, _, rfl, _, rfl, a, i, ns, rfl, (s07.trans sC).seq hS, hlen, hi3, fun pk ms H8 s8 npk epk lms => ⟨L, pk, mn, ds, ms, rfl, hL7.same (sC.trans s8), m1, m6, hl60, fa, SqL.of epk, by omega, fun b H9 s9 hb => ⟨b, rfl, ?_⟩⟩⟩
    have sC9 := sC.trans (s8.trans s9)
    cases b with
    | false => exact iteF ⟨_, rfl, sC9⟩
    | true =>
      obtain ⟨c0, hc0⟩ := hb rfl
      refine iteT ?_
      refine PuS.if1 (c := False) (PuS.not (a := true) (fun Qt q => ⟨_, rfl, p, mn, xs, ds, rfl, rp.same sC9, hd7.same sC9, m1, m6, hl60, fa, fun hno => absurd hc0 (hno c0), fun R2 c2 HB hR2 sB nc2 ec2 => ⟨_, rfl, _, rfl, _, rfl, l, mn, xs, ds, rfl, SqL.of ((sC9.trans sB) _ _ el7), hd7.same (sC9.trans sB), m1, m6, hl60, fa, fun r ts HD sD nr G => ⟨c2, l, r, mn, xs, ds, ts, R2, HB, rfl, sD _ _ ec2, SqL.of ((sC9.trans (sB.trans sD)) _ _ el7), hd7.same (sC9.trans (sB.trans sD)), hl60, m6, fa, G, hR2, fun H' s' => ⟨true, rfl, q H' (sB.trans (sD.trans s'))⟩⟩⟩⟩)) (fun _ _ z => z.elim) (fun HE sE _ => ⟨_, rfl, sC9.trans sE⟩)
end
end K
namespace L2
open PySem
section
variable {K : PySem.W.Frag} {x qual : Str} {st : Stmt} {f : Addr} {fd : FuncData}
theorem Fun.b1 {p0 : Str} (F : Fun K x qual st f fd) (h : ∀ (kV doc pm : Value) (an : Option Addr) (cdv ct : Value) (u0 : Value), bindArgs (PySem.W.fnOf x qual (defArgs st) (defBody st) (defScope st) .none kV doc pm an cdv ct) ⟨[u0], []⟩ = pure ([p0].zip [u0])) : Binds K fd [p0] [] :=
  F.binds fun kV doc pm an cdv ct us hl => match us, hl with | [u0], _ => h kV doc pm an cdv ct u0
theorem Fun.b2 {p0 p1 : Str} (F : Fun K x qual st f fd) (h : ∀ (kV doc pm : Value) (an : Option Addr) (cdv ct : Value) (u0 u1 : Value), bindArgs (PySem.W.fnOf x qual (defArgs st) (defBody st) (defScope st) .none kV doc pm an cdv ct) ⟨[u0, u1], []⟩ = pure ([p0, p1].zip [u0, u1])) : Binds K fd [p0, p1] [] :=
  F.binds fun kV doc pm an cdv ct us hl => match us, hl with | [u0, u1], _ => h kV doc pm an cdv ct u0 u1
theorem Fun.b3 {p0 p1 p2 : Str} (F : Fun K x qual st f fd) (h : ∀ (kV doc pm : Value) (an : Option Addr) (cdv ct : Value) (u0 u1 u2 : Value), bindArgs (PySem.W.fnOf x qual (defArgs st) (defBody st) (defScope st) .none kV doc pm an cdv ct) ⟨[u0, u1, u2], []⟩ = pure ([p0, p1, p2].zip [u0, u1, u2])) : Binds K fd [p0, p1, p2] [] :=
  F.binds fun kV doc pm an cdv ct us hl => match us, hl with | [u0, u1, u2], _ => h kV doc pm an cdv ct u0 u1 u2
theorem Fun.b4 {p0 p1 p2 p3 : Str} (F : Fun K x qual st f fd) (h : ∀ (kV doc pm : Value) (an : Option Addr) (cdv ct : Value) (u0 u1 u2 u3 : Value), bindArgs (PySem.W.fnOf x qual (defArgs st) (defBody st) (defScope st) .none kV doc pm an cdv ct) ⟨[u0, u1, u2, u3], []⟩ = pure ([p0, p1, p2, p3].zip [u0, u1, u2, u3])) : Binds K fd [p0, p1, p2, p3] [] :=
  F.binds fun kV doc pm an cdv ct us hl => match us, hl with | [u0, u1, u2, u3], _ => h kV doc pm an cdv ct u0 u1 u2 u3
theorem Fun.b5 {p0 p1 p2 p3 p4 : Str} (F : Fun K x qual st f fd) (h : ∀ (kV doc pm : Value) (an : Option Addr) (cdv ct : Value) (u0 u1 u2 u3 u4 : Value), bindArgs (PySem.W.fnOf x qual (defArgs st) (defBody st) (defScope st) .none kV doc pm an cdv ct) ⟨[u0, u1, u2, u3, u4], []⟩ = pure ([p0, p1, p2, p3, p4].zip [u0, u1, u2, u3, u4])) : Binds K fd [p0, p1, p2, p3, p4] [] :=
  F.binds fun kV doc pm an cdv ct us hl => match us, hl with | [u0, u1, u2, u3, u4], _ => h kV doc pm an cdv ct u0 u1 u2 u3 u4
end
end L2
namespace K
open PySem L2 RC
theorem all_mk {l : PySem.W.OpenLaw} {w : World} {K : PySem.W.Frag} {h : Heap} {mg : Str → Option Value} {fa : Addr} (X : K.In h) (G : h.Ns mainGlobals mg) (hfa : mg "law" = some (.ref fa))
    {od_aW od_aT : Option Addr} {nn_aW nn_aT : Nat} {sl_aW sl_aT : Array (Option Value)} {t_aW0 t_aW1 t_aW2 t_aW3 t_aW4 t_aW5 t_aT0 t_aT1 : Tok} {aW aT : Addr} {ti_MOST_THREADS ti_MOST_DEEDS : Tok} {od_m_C_init an_m_C_init od_m_C_fault_of_thread an_m_C_fault_of_thread od_m_C_fault_of_word an_m_C_fault_of_word od_m_C_follow an_m_C_follow od_m_CR_init an_m_CR_init od_m_CR_deed an_m_CR_deed od_m_CR_deeds an_m_CR_deeds od_g_fault_of_form an_g_fault_of_form od_g_fault_of_deed an_g_fault_of_deed od_g_fault an_g_fault od_g_held an_g_held od_g_in_common an_g_in_common od_g_takes an_g_takes od_g_can_follow an_g_can_follow od_g_longer an_g_longer od_g_closes an_g_closes od_g_ring an_g_ring od_g_law_cell an_g_law_cell od_g_law_whole an_g_law_whole od_g_law_lock_deed an_g_law_lock_deed od_g_law_thread_deed an_g_law_thread_deed od_g_law_deeds an_g_law_deeds od_g_law_blocks an_g_law_blocks od_g_law_locks an_g_law_locks od_g_law_ringed an_g_law_ringed od_g_law_next an_g_law_next od_g_law_can an_g_law_can od_g_law_knotted an_g_law_knotted od_g_law_comes_round an_g_law_comes_round od_g_law_picks an_g_law_picks od_g_law an_g_law : Option Addr} {sl_m_C_init sl_m_C_fault_of_thread sl_m_C_fault_of_word sl_m_C_follow sl_m_CR_init sl_m_CR_deed sl_m_CR_deeds sl_g_fault_of_form sl_g_fault_of_deed sl_g_fault sl_g_held sl_g_in_common sl_g_takes sl_g_can_follow sl_g_longer sl_g_closes sl_g_ring sl_g_law_cell sl_g_law_whole sl_g_law_lock_deed sl_g_law_thread_deed sl_g_law_deeds sl_g_law_blocks sl_g_law_locks sl_g_law_ringed sl_g_law_next sl_g_law_can sl_g_law_knotted sl_g_law_comes_round sl_g_law_picks sl_g_law : Array (Option Value)} {oc_m_C_init kV_m_C_init dc_m_C_init pm_m_C_init cd_m_C_init ct_m_C_init oc_m_C_fault_of_thread kV_m_C_fault_of_thread dc_m_C_fault_of_thread pm_m_C_fault_of_thread cd_m_C_fault_of_thread ct_m_C_fault_of_thread oc_m_C_fault_of_word kV_m_C_fault_of_word dc_m_C_fault_of_word pm_m_C_fault_of_word cd_m_C_fault_of_word ct_m_C_fault_of_word oc_m_C_follow kV_m_C_follow dc_m_C_follow pm_m_C_follow cd_m_C_follow ct_m_C_follow oc_m_CR_init kV_m_CR_init dc_m_CR_init pm_m_CR_init cd_m_CR_init ct_m_CR_init oc_m_CR_deed kV_m_CR_deed dc_m_CR_deed pm_m_CR_deed cd_m_CR_deed ct_m_CR_deed oc_m_CR_deeds kV_m_CR_deeds dc_m_CR_deeds pm_m_CR_deeds cd_m_CR_deeds ct_m_CR_deeds oc_g_fault_of_form kV_g_fault_of_form dc_g_fault_of_form pm_g_fault_of_form cd_g_fault_of_form ct_g_fault_of_form oc_g_fault_of_deed kV_g_fault_of_deed dc_g_fault_of_deed pm_g_fault_of_deed cd_g_fault_of_deed ct_g_fault_of_deed oc_g_fault kV_g_fault dc_g_fault pm_g_fault cd_g_fault ct_g_fault oc_g_held kV_g_held dc_g_held pm_g_held cd_g_held ct_g_held oc_g_in_common kV_g_in_common dc_g_in_common pm_g_in_common cd_g_in_common ct_g_in_common oc_g_takes kV_g_takes dc_g_takes pm_g_takes cd_g_takes ct_g_takes oc_g_can_follow kV_g_can_follow dc_g_can_follow pm_g_can_follow cd_g_can_follow ct_g_can_follow oc_g_longer kV_g_longer dc_g_longer pm_g_longer cd_g_longer ct_g_longer oc_g_closes kV_g_closes dc_g_closes pm_g_closes cd_g_closes ct_g_closes oc_g_ring kV_g_ring dc_g_ring pm_g_ring cd_g_ring ct_g_ring oc_g_law_cell kV_g_law_cell dc_g_law_cell pm_g_law_cell cd_g_law_cell ct_g_law_cell oc_g_law_whole kV_g_law_whole dc_g_law_whole pm_g_law_whole cd_g_law_whole ct_g_law_whole oc_g_law_lock_deed kV_g_law_lock_deed dc_g_law_lock_deed pm_g_law_lock_deed cd_g_law_lock_deed ct_g_law_lock_deed oc_g_law_thread_deed kV_g_law_thread_deed dc_g_law_thread_deed pm_g_law_thread_deed cd_g_law_thread_deed ct_g_law_thread_deed oc_g_law_deeds kV_g_law_deeds dc_g_law_deeds pm_g_law_deeds cd_g_law_deeds ct_g_law_deeds oc_g_law_blocks kV_g_law_blocks dc_g_law_blocks pm_g_law_blocks cd_g_law_blocks ct_g_law_blocks oc_g_law_locks kV_g_law_locks dc_g_law_locks pm_g_law_locks cd_g_law_locks ct_g_law_locks oc_g_law_ringed kV_g_law_ringed dc_g_law_ringed pm_g_law_ringed cd_g_law_ringed ct_g_law_ringed oc_g_law_next kV_g_law_next dc_g_law_next pm_g_law_next cd_g_law_next ct_g_law_next oc_g_law_can kV_g_law_can dc_g_law_can pm_g_law_can cd_g_law_can ct_g_law_can oc_g_law_knotted kV_g_law_knotted dc_g_law_knotted pm_g_law_knotted cd_g_law_knotted ct_g_law_knotted oc_g_law_comes_round kV_g_law_comes_round dc_g_law_comes_round pm_g_law_comes_round cd_g_law_comes_round ct_g_law_comes_round oc_g_law_picks kV_g_law_picks dc_g_law_picks pm_g_law_picks cd_g_law_picks ct_g_law_picks oc_g_law kV_g_law dc_g_law pm_g_law cd_g_law ct_g_law : Value} {C CR f_m_C_init f_m_C_fault_of_thread f_m_C_fault_of_word f_m_C_follow f_m_CR_init f_m_CR_deed f_m_CR_deeds f_g_fault_of_form f_g_fault_of_deed f_g_fault f_g_held f_g_in_common f_g_takes f_g_can_follow f_g_longer f_g_closes f_g_ring f_g_law_cell f_g_law_whole f_g_law_lock_deed f_g_law_thread_deed f_g_law_deeds f_g_law_blocks f_g_law_locks f_g_law_ringed f_g_law_next f_g_law_can f_g_law_knotted f_g_law_comes_round f_g_law_picks f_g_law : Addr}
    (a_C : PySem.W.nsIn K mainGlobals "Past" = some (some (.ref C)))
    (a_CR : PySem.W.nsIn K mainGlobals "Row" = some (some (.ref CR)))
    (a_m_C_init : PySem.W.findIn K (.ref C) "__init__" = some (some (.ref f_m_C_init)))
    (i_m_C_init : PySem.W.isFn K (.ref f_m_C_init) = true)
    (l_m_C_init : K.lookup f_m_C_init = some ⟨oc_m_C_init, od_m_C_init, .func (PySem.W.fnOf "__init__" "Past.__init__" (defArgs sInit) (defBody sInit) (defScope sInit) .none kV_m_C_init dc_m_C_init pm_m_C_init an_m_C_init cd_m_C_init ct_m_C_init), sl_m_C_init⟩)
    (c_m_C_init : PySem.W.codeIn K cd_m_C_init "Past.__init__" = true)
    (k_m_C_init : PySem.W.keepIn K (.ref f_m_C_init) = true)
    (a_m_C_fault_of_thread : PySem.W.findIn K (.ref C) "fault_of_thread" = some (some (.ref f_m_C_fault_of_thread)))
    (i_m_C_fault_of_thread : PySem.W.isFn K (.ref f_m_C_fault_of_thread) = true)
    (l_m_C_fault_of_thread : K.lookup f_m_C_fault_of_thread = some ⟨oc_m_C_fault_of_thread, od_m_C_fault_of_thread, .func (PySem.W.fnOf "fault_of_thread" "Past.fault_of_thread" (defArgs sTh) (defBody sTh) (defScope sTh) .none kV_m_C_fault_of_thread dc_m_C_fault_of_thread pm_m_C_fault_of_thread an_m_C_fault_of_thread cd_m_C_fault_of_thread ct_m_C_fault_of_thread), sl_m_C_fault_of_thread⟩)
    (c_m_C_fault_of_thread : PySem.W.codeIn K cd_m_C_fault_of_thread "Past.fault_of_thread" = true)
    (k_m_C_fault_of_thread : PySem.W.keepIn K (.ref f_m_C_fault_of_thread) = true)
    (a_m_C_fault_of_word : PySem.W.findIn K (.ref C) "fault_of_word" = some (some (.ref f_m_C_fault_of_word)))
    (i_m_C_fault_of_word : PySem.W.isFn K (.ref f_m_C_fault_of_word) = true)
    (l_m_C_fault_of_word : K.lookup f_m_C_fault_of_word = some ⟨oc_m_C_fault_of_word, od_m_C_fault_of_word, .func (PySem.W.fnOf "fault_of_word" "Past.fault_of_word" (defArgs sWo) (defBody sWo) (defScope sWo) .none kV_m_C_fault_of_word dc_m_C_fault_of_word pm_m_C_fault_of_word an_m_C_fault_of_word cd_m_C_fault_of_word ct_m_C_fault_of_word), sl_m_C_fault_of_word⟩)
    (c_m_C_fault_of_word : PySem.W.codeIn K cd_m_C_fault_of_word "Past.fault_of_word" = true)
    (k_m_C_fault_of_word : PySem.W.keepIn K (.ref f_m_C_fault_of_word) = true)
    (a_m_C_follow : PySem.W.findIn K (.ref C) "follow" = some (some (.ref f_m_C_follow)))
    (i_m_C_follow : PySem.W.isFn K (.ref f_m_C_follow) = true)
    (l_m_C_follow : K.lookup f_m_C_follow = some ⟨oc_m_C_follow, od_m_C_follow, .func (PySem.W.fnOf "follow" "Past.follow" (defArgs sFol) (defBody sFol) (defScope sFol) .none kV_m_C_follow dc_m_C_follow pm_m_C_follow an_m_C_follow cd_m_C_follow ct_m_C_follow), sl_m_C_follow⟩)
    (c_m_C_follow : PySem.W.codeIn K cd_m_C_follow "Past.follow" = true)
    (k_m_C_follow : PySem.W.keepIn K (.ref f_m_C_follow) = true)
    (a_m_CR_init : PySem.W.findIn K (.ref CR) "__init__" = some (some (.ref f_m_CR_init)))
    (i_m_CR_init : PySem.W.isFn K (.ref f_m_CR_init) = true)
    (l_m_CR_init : K.lookup f_m_CR_init = some ⟨oc_m_CR_init, od_m_CR_init, .func (PySem.W.fnOf "__init__" "Row.__init__" (defArgs sRow) (defBody sRow) (defScope sRow) .none kV_m_CR_init dc_m_CR_init pm_m_CR_init an_m_CR_init cd_m_CR_init ct_m_CR_init), sl_m_CR_init⟩)
    (c_m_CR_init : PySem.W.codeIn K cd_m_CR_init "Row.__init__" = true)
    (k_m_CR_init : PySem.W.keepIn K (.ref f_m_CR_init) = true)
    (a_m_CR_deed : PySem.W.findIn K (.ref CR) "deed" = some (some (.ref f_m_CR_deed)))
    (i_m_CR_deed : PySem.W.isFn K (.ref f_m_CR_deed) = true)
    (l_m_CR_deed : K.lookup f_m_CR_deed = some ⟨oc_m_CR_deed, od_m_CR_deed, .func (PySem.W.fnOf "deed" "Row.deed" (defArgs sDeed) (defBody sDeed) (defScope sDeed) .none kV_m_CR_deed dc_m_CR_deed pm_m_CR_deed an_m_CR_deed cd_m_CR_deed ct_m_CR_deed), sl_m_CR_deed⟩)
    (c_m_CR_deed : PySem.W.codeIn K cd_m_CR_deed "Row.deed" = true)
    (k_m_CR_deed : PySem.W.keepIn K (.ref f_m_CR_deed) = true)
    (a_m_CR_deeds : PySem.W.findIn K (.ref CR) "deeds" = some (some (.ref f_m_CR_deeds)))
    (i_m_CR_deeds : PySem.W.isFn K (.ref f_m_CR_deeds) = true)
    (l_m_CR_deeds : K.lookup f_m_CR_deeds = some ⟨oc_m_CR_deeds, od_m_CR_deeds, .func (PySem.W.fnOf "deeds" "Row.deeds" (defArgs sRDs) (defBody sRDs) (defScope sRDs) .none kV_m_CR_deeds dc_m_CR_deeds pm_m_CR_deeds an_m_CR_deeds cd_m_CR_deeds ct_m_CR_deeds), sl_m_CR_deeds⟩)
    (c_m_CR_deeds : PySem.W.codeIn K cd_m_CR_deeds "Row.deeds" = true)
    (k_m_CR_deeds : PySem.W.keepIn K (.ref f_m_CR_deeds) = true)
    (a_g_fault_of_form : PySem.W.nsIn K mainGlobals "fault_of_form" = some (some (.ref f_g_fault_of_form)))
    (l_g_fault_of_form : K.lookup f_g_fault_of_form = some ⟨oc_g_fault_of_form, od_g_fault_of_form, .func (PySem.W.fnOf "fault_of_form" "fault_of_form" (defArgs sForm) (defBody sForm) (defScope sForm) .none kV_g_fault_of_form dc_g_fault_of_form pm_g_fault_of_form an_g_fault_of_form cd_g_fault_of_form ct_g_fault_of_form), sl_g_fault_of_form⟩)
    (c_g_fault_of_form : PySem.W.codeIn K cd_g_fault_of_form "fault_of_form" = true)
    (k_g_fault_of_form : PySem.W.keepIn K (.ref f_g_fault_of_form) = true)
    (a_g_fault_of_deed : PySem.W.nsIn K mainGlobals "fault_of_deed" = some (some (.ref f_g_fault_of_deed)))
    (l_g_fault_of_deed : K.lookup f_g_fault_of_deed = some ⟨oc_g_fault_of_deed, od_g_fault_of_deed, .func (PySem.W.fnOf "fault_of_deed" "fault_of_deed" (defArgs sOf) (defBody sOf) (defScope sOf) .none kV_g_fault_of_deed dc_g_fault_of_deed pm_g_fault_of_deed an_g_fault_of_deed cd_g_fault_of_deed ct_g_fault_of_deed), sl_g_fault_of_deed⟩)
    (c_g_fault_of_deed : PySem.W.codeIn K cd_g_fault_of_deed "fault_of_deed" = true)
    (k_g_fault_of_deed : PySem.W.keepIn K (.ref f_g_fault_of_deed) = true)
    (a_g_fault : PySem.W.nsIn K mainGlobals "fault" = some (some (.ref f_g_fault)))
    (l_g_fault : K.lookup f_g_fault = some ⟨oc_g_fault, od_g_fault, .func (PySem.W.fnOf "fault" "fault" (defArgs sFault) (defBody sFault) (defScope sFault) .none kV_g_fault dc_g_fault pm_g_fault an_g_fault cd_g_fault ct_g_fault), sl_g_fault⟩)
    (c_g_fault : PySem.W.codeIn K cd_g_fault "fault" = true)
    (k_g_fault : PySem.W.keepIn K (.ref f_g_fault) = true)
    (a_g_held : PySem.W.nsIn K mainGlobals "held" = some (some (.ref f_g_held)))
    (l_g_held : K.lookup f_g_held = some ⟨oc_g_held, od_g_held, .func (PySem.W.fnOf "held" "held" (defArgs s_held) (defBody s_held) (defScope s_held) .none kV_g_held dc_g_held pm_g_held an_g_held cd_g_held ct_g_held), sl_g_held⟩)
    (c_g_held : PySem.W.codeIn K cd_g_held "held" = true)
    (k_g_held : PySem.W.keepIn K (.ref f_g_held) = true)
    (a_g_in_common : PySem.W.nsIn K mainGlobals "in_common" = some (some (.ref f_g_in_common)))
    (l_g_in_common : K.lookup f_g_in_common = some ⟨oc_g_in_common, od_g_in_common, .func (PySem.W.fnOf "in_common" "in_common" (defArgs s_in_common) (defBody s_in_common) (defScope s_in_common) .none kV_g_in_common dc_g_in_common pm_g_in_common an_g_in_common cd_g_in_common ct_g_in_common), sl_g_in_common⟩)
    (c_g_in_common : PySem.W.codeIn K cd_g_in_common "in_common" = true)
    (k_g_in_common : PySem.W.keepIn K (.ref f_g_in_common) = true)
    (a_g_takes : PySem.W.nsIn K mainGlobals "takes" = some (some (.ref f_g_takes)))
    (l_g_takes : K.lookup f_g_takes = some ⟨oc_g_takes, od_g_takes, .func (PySem.W.fnOf "takes" "takes" (defArgs s_takes) (defBody s_takes) (defScope s_takes) .none kV_g_takes dc_g_takes pm_g_takes an_g_takes cd_g_takes ct_g_takes), sl_g_takes⟩)
    (c_g_takes : PySem.W.codeIn K cd_g_takes "takes" = true)
    (k_g_takes : PySem.W.keepIn K (.ref f_g_takes) = true)
    (a_g_can_follow : PySem.W.nsIn K mainGlobals "can_follow" = some (some (.ref f_g_can_follow)))
    (l_g_can_follow : K.lookup f_g_can_follow = some ⟨oc_g_can_follow, od_g_can_follow, .func (PySem.W.fnOf "can_follow" "can_follow" (defArgs s_can_follow) (defBody s_can_follow) (defScope s_can_follow) .none kV_g_can_follow dc_g_can_follow pm_g_can_follow an_g_can_follow cd_g_can_follow ct_g_can_follow), sl_g_can_follow⟩)
    (c_g_can_follow : PySem.W.codeIn K cd_g_can_follow "can_follow" = true)
    (k_g_can_follow : PySem.W.keepIn K (.ref f_g_can_follow) = true)
    (a_g_longer : PySem.W.nsIn K mainGlobals "longer" = some (some (.ref f_g_longer)))
    (l_g_longer : K.lookup f_g_longer = some ⟨oc_g_longer, od_g_longer, .func (PySem.W.fnOf "longer" "longer" (defArgs s_longer) (defBody s_longer) (defScope s_longer) .none kV_g_longer dc_g_longer pm_g_longer an_g_longer cd_g_longer ct_g_longer), sl_g_longer⟩)
    (c_g_longer : PySem.W.codeIn K cd_g_longer "longer" = true)
    (k_g_longer : PySem.W.keepIn K (.ref f_g_longer) = true)
    (a_g_closes : PySem.W.nsIn K mainGlobals "closes" = some (some (.ref f_g_closes)))
    (l_g_closes : K.lookup f_g_closes = some ⟨oc_g_closes, od_g_closes, .func (PySem.W.fnOf "closes" "closes" (defArgs s_closes) (defBody s_closes) (defScope s_closes) .none kV_g_closes dc_g_closes pm_g_closes an_g_closes cd_g_closes ct_g_closes), sl_g_closes⟩)
    (c_g_closes : PySem.W.codeIn K cd_g_closes "closes" = true)
    (k_g_closes : PySem.W.keepIn K (.ref f_g_closes) = true)
    (a_g_ring : PySem.W.nsIn K mainGlobals "ring" = some (some (.ref f_g_ring)))
    (l_g_ring : K.lookup f_g_ring = some ⟨oc_g_ring, od_g_ring, .func (PySem.W.fnOf "ring" "ring" (defArgs s_ring) (defBody s_ring) (defScope s_ring) .none kV_g_ring dc_g_ring pm_g_ring an_g_ring cd_g_ring ct_g_ring), sl_g_ring⟩)
    (c_g_ring : PySem.W.codeIn K cd_g_ring "ring" = true)
    (k_g_ring : PySem.W.keepIn K (.ref f_g_ring) = true)
    (a_g_law_cell : PySem.W.nsIn K mainGlobals "_law_cell" = some (some (.ref f_g_law_cell)))
    (l_g_law_cell : K.lookup f_g_law_cell = some ⟨oc_g_law_cell, od_g_law_cell, .func (PySem.W.fnOf "_law_cell" "_law_cell" (defArgs s__law_cell) (defBody s__law_cell) (defScope s__law_cell) .none kV_g_law_cell dc_g_law_cell pm_g_law_cell an_g_law_cell cd_g_law_cell ct_g_law_cell), sl_g_law_cell⟩)
    (c_g_law_cell : PySem.W.codeIn K cd_g_law_cell "_law_cell" = true)
    (k_g_law_cell : PySem.W.keepIn K (.ref f_g_law_cell) = true)
    (a_g_law_whole : PySem.W.nsIn K mainGlobals "_law_whole" = some (some (.ref f_g_law_whole)))
    (l_g_law_whole : K.lookup f_g_law_whole = some ⟨oc_g_law_whole, od_g_law_whole, .func (PySem.W.fnOf "_law_whole" "_law_whole" (defArgs sWhole) (defBody sWhole) (defScope sWhole) .none kV_g_law_whole dc_g_law_whole pm_g_law_whole an_g_law_whole cd_g_law_whole ct_g_law_whole), sl_g_law_whole⟩)
    (c_g_law_whole : PySem.W.codeIn K cd_g_law_whole "_law_whole" = true)
    (k_g_law_whole : PySem.W.keepIn K (.ref f_g_law_whole) = true)
    (a_g_law_lock_deed : PySem.W.nsIn K mainGlobals "_law_lock_deed" = some (some (.ref f_g_law_lock_deed)))
    (l_g_law_lock_deed : K.lookup f_g_law_lock_deed = some ⟨oc_g_law_lock_deed, od_g_law_lock_deed, .func (PySem.W.fnOf "_law_lock_deed" "_law_lock_deed" (defArgs s__law_lock_deed) (defBody s__law_lock_deed) (defScope s__law_lock_deed) .none kV_g_law_lock_deed dc_g_law_lock_deed pm_g_law_lock_deed an_g_law_lock_deed cd_g_law_lock_deed ct_g_law_lock_deed), sl_g_law_lock_deed⟩)
    (c_g_law_lock_deed : PySem.W.codeIn K cd_g_law_lock_deed "_law_lock_deed" = true)
    (k_g_law_lock_deed : PySem.W.keepIn K (.ref f_g_law_lock_deed) = true)
    (a_g_law_thread_deed : PySem.W.nsIn K mainGlobals "_law_thread_deed" = some (some (.ref f_g_law_thread_deed)))
    (l_g_law_thread_deed : K.lookup f_g_law_thread_deed = some ⟨oc_g_law_thread_deed, od_g_law_thread_deed, .func (PySem.W.fnOf "_law_thread_deed" "_law_thread_deed" (defArgs s__law_thread_deed) (defBody s__law_thread_deed) (defScope s__law_thread_deed) .none kV_g_law_thread_deed dc_g_law_thread_deed pm_g_law_thread_deed an_g_law_thread_deed cd_g_law_thread_deed ct_g_law_thread_deed), sl_g_law_thread_deed⟩)
    (c_g_law_thread_deed : PySem.W.codeIn K cd_g_law_thread_deed "_law_thread_deed" = true)
    (k_g_law_thread_deed : PySem.W.keepIn K (.ref f_g_law_thread_deed) = true)
    (a_g_law_deeds : PySem.W.nsIn K mainGlobals "_law_deeds" = some (some (.ref f_g_law_deeds)))
    (l_g_law_deeds : K.lookup f_g_law_deeds = some ⟨oc_g_law_deeds, od_g_law_deeds, .func (PySem.W.fnOf "_law_deeds" "_law_deeds" (defArgs sDeeds) (defBody sDeeds) (defScope sDeeds) .none kV_g_law_deeds dc_g_law_deeds pm_g_law_deeds an_g_law_deeds cd_g_law_deeds ct_g_law_deeds), sl_g_law_deeds⟩)
    (c_g_law_deeds : PySem.W.codeIn K cd_g_law_deeds "_law_deeds" = true)
    (k_g_law_deeds : PySem.W.keepIn K (.ref f_g_law_deeds) = true)
    (a_g_law_blocks : PySem.W.nsIn K mainGlobals "_law_blocks" = some (some (.ref f_g_law_blocks)))
    (l_g_law_blocks : K.lookup f_g_law_blocks = some ⟨oc_g_law_blocks, od_g_law_blocks, .func (PySem.W.fnOf "_law_blocks" "_law_blocks" (defArgs s__law_blocks) (defBody s__law_blocks) (defScope s__law_blocks) .none kV_g_law_blocks dc_g_law_blocks pm_g_law_blocks an_g_law_blocks cd_g_law_blocks ct_g_law_blocks), sl_g_law_blocks⟩)
    (c_g_law_blocks : PySem.W.codeIn K cd_g_law_blocks "_law_blocks" = true)
    (k_g_law_blocks : PySem.W.keepIn K (.ref f_g_law_blocks) = true)
    (a_g_law_locks : PySem.W.nsIn K mainGlobals "_law_locks" = some (some (.ref f_g_law_locks)))
    (l_g_law_locks : K.lookup f_g_law_locks = some ⟨oc_g_law_locks, od_g_law_locks, .func (PySem.W.fnOf "_law_locks" "_law_locks" (defArgs s__law_locks) (defBody s__law_locks) (defScope s__law_locks) .none kV_g_law_locks dc_g_law_locks pm_g_law_locks an_g_law_locks cd_g_law_locks ct_g_law_locks), sl_g_law_locks⟩)
    (c_g_law_locks : PySem.W.codeIn K cd_g_law_locks "_law_locks" = true)
    (k_g_law_locks : PySem.W.keepIn K (.ref f_g_law_locks) = true)
    (a_g_law_ringed : PySem.W.nsIn K mainGlobals "_law_ringed" = some (some (.ref f_g_law_ringed)))
    (l_g_law_ringed : K.lookup f_g_law_ringed = some ⟨oc_g_law_ringed, od_g_law_ringed, .func (PySem.W.fnOf "_law_ringed" "_law_ringed" (defArgs s__law_ringed) (defBody s__law_ringed) (defScope s__law_ringed) .none kV_g_law_ringed dc_g_law_ringed pm_g_law_ringed an_g_law_ringed cd_g_law_ringed ct_g_law_ringed), sl_g_law_ringed⟩)
    (c_g_law_ringed : PySem.W.codeIn K cd_g_law_ringed "_law_ringed" = true)
    (k_g_law_ringed : PySem.W.keepIn K (.ref f_g_law_ringed) = true)
    (a_g_law_next : PySem.W.nsIn K mainGlobals "_law_next" = some (some (.ref f_g_law_next)))
    (l_g_law_next : K.lookup f_g_law_next = some ⟨oc_g_law_next, od_g_law_next, .func (PySem.W.fnOf "_law_next" "_law_next" (defArgs s__law_next) (defBody s__law_next) (defScope s__law_next) .none kV_g_law_next dc_g_law_next pm_g_law_next an_g_law_next cd_g_law_next ct_g_law_next), sl_g_law_next⟩)
    (c_g_law_next : PySem.W.codeIn K cd_g_law_next "_law_next" = true)
    (k_g_law_next : PySem.W.keepIn K (.ref f_g_law_next) = true)
    (a_g_law_can : PySem.W.nsIn K mainGlobals "_law_can" = some (some (.ref f_g_law_can)))
    (l_g_law_can : K.lookup f_g_law_can = some ⟨oc_g_law_can, od_g_law_can, .func (PySem.W.fnOf "_law_can" "_law_can" (defArgs s__law_can) (defBody s__law_can) (defScope s__law_can) .none kV_g_law_can dc_g_law_can pm_g_law_can an_g_law_can cd_g_law_can ct_g_law_can), sl_g_law_can⟩)
    (c_g_law_can : PySem.W.codeIn K cd_g_law_can "_law_can" = true)
    (k_g_law_can : PySem.W.keepIn K (.ref f_g_law_can) = true)
    (a_g_law_knotted : PySem.W.nsIn K mainGlobals "_law_knotted" = some (some (.ref f_g_law_knotted)))
    (l_g_law_knotted : K.lookup f_g_law_knotted = some ⟨oc_g_law_knotted, od_g_law_knotted, .func (PySem.W.fnOf "_law_knotted" "_law_knotted" (defArgs s__law_knotted) (defBody s__law_knotted) (defScope s__law_knotted) .none kV_g_law_knotted dc_g_law_knotted pm_g_law_knotted an_g_law_knotted cd_g_law_knotted ct_g_law_knotted), sl_g_law_knotted⟩)
    (c_g_law_knotted : PySem.W.codeIn K cd_g_law_knotted "_law_knotted" = true)
    (k_g_law_knotted : PySem.W.keepIn K (.ref f_g_law_knotted) = true)
    (a_g_law_comes_round : PySem.W.nsIn K mainGlobals "_law_comes_round" = some (some (.ref f_g_law_comes_round)))
    (l_g_law_comes_round : K.lookup f_g_law_comes_round = some ⟨oc_g_law_comes_round, od_g_law_comes_round, .func (PySem.W.fnOf "_law_comes_round" "_law_comes_round" (defArgs s__law_comes_round) (defBody s__law_comes_round) (defScope s__law_comes_round) .none kV_g_law_comes_round dc_g_law_comes_round pm_g_law_comes_round an_g_law_comes_round cd_g_law_comes_round ct_g_law_comes_round), sl_g_law_comes_round⟩)
    (c_g_law_comes_round : PySem.W.codeIn K cd_g_law_comes_round "_law_comes_round" = true)
    (k_g_law_comes_round : PySem.W.keepIn K (.ref f_g_law_comes_round) = true)
    (a_g_law_picks : PySem.W.nsIn K mainGlobals "_law_picks" = some (some (.ref f_g_law_picks)))
    (l_g_law_picks : K.lookup f_g_law_picks = some ⟨oc_g_law_picks, od_g_law_picks, .func (PySem.W.fnOf "_law_picks" "_law_picks" (defArgs s__law_picks) (defBody s__law_picks) (defScope s__law_picks) .none kV_g_law_picks dc_g_law_picks pm_g_law_picks an_g_law_picks cd_g_law_picks ct_g_law_picks), sl_g_law_picks⟩)
    (c_g_law_picks : PySem.W.codeIn K cd_g_law_picks "_law_picks" = true)
    (k_g_law_picks : PySem.W.keepIn K (.ref f_g_law_picks) = true)
    (a_g_law : PySem.W.nsIn K mainGlobals "law" = some (some (.ref f_g_law)))
    (l_g_law : K.lookup f_g_law = some ⟨oc_g_law, od_g_law, .func (PySem.W.fnOf "law" "law" (defArgs sLaw) (defBody sLaw) (defScope sLaw) .none kV_g_law dc_g_law pm_g_law an_g_law cd_g_law ct_g_law), sl_g_law⟩)
    (c_g_law : PySem.W.codeIn K cd_g_law "law" = true)
    (k_g_law : PySem.W.keepIn K (.ref f_g_law) = true)
    (n_aW : PySem.W.nsIn K mainGlobals "WORDS" = some (some (.ref aW)))
    (l_aW : K.lookup aW = some ⟨.type "tuple", od_aW, .seq #[.str "read" t_aW0, .str "write" t_aW1, .str "take" t_aW2, .str "give" t_aW3, .str "fork" t_aW4, .str "wait" t_aW5] nn_aW, sl_aW⟩)
    (n_aT : PySem.W.nsIn K mainGlobals "WORDS_OF_THREADS" = some (some (.ref aT)))
    (l_aT : K.lookup aT = some ⟨.type "tuple", od_aT, .seq #[.str "fork" t_aT0, .str "wait" t_aT1] nn_aT, sl_aT⟩)
    (n_MOST_THREADS : PySem.W.nsIn K mainGlobals "MOST_THREADS" = some (some (.int 6 ti_MOST_THREADS)))
    (n_MOST_DEEDS : PySem.W.nsIn K mainGlobals "MOST_DEEDS" = some (some (.int 60 ti_MOST_DEEDS)))
    (pg_C : PySem.W.plainGet K C Str.empty = true)
    (hd_C : PySem.W.hasDictIn K C = true)
    (po_C : PySem.W.plainOver K C = true)
    (sa_C : PySem.W.findIn K (.ref C) "__setattr__" = some (some (.builtin "object.__setattr__")))
    (mk_C : PySem.W.makesIn K C = true)
    (kc_C : PySem.W.keepIn K (.ref C) = true)
    (nf_C_awake : PySem.W.findIn K (.ref C) "awake" = some none)
    (nf_C_gone : PySem.W.findIn K (.ref C) "gone" = some none)
    (nf_C_holders : PySem.W.findIn K (.ref C) "holders" = some none)
    (pg_CR : PySem.W.plainGet K CR Str.empty = true)
    (hd_CR : PySem.W.hasDictIn K CR = true)
    (po_CR : PySem.W.plainOver K CR = true)
    (sa_CR : PySem.W.findIn K (.ref CR) "__setattr__" = some (some (.builtin "object.__setattr__")))
    (mk_CR : PySem.W.makesIn K CR = true)
    (kc_CR : PySem.W.keepIn K (.ref CR) = true)
    (nf_CR_many : PySem.W.findIn K (.ref CR) "many" = some none)
    (nf_CR_size : PySem.W.findIn K (.ref CR) "size" = some none)
    (nf_CR_all_deeds : PySem.W.findIn K (.ref CR) "all_deeds" = some none)
    (z_len : PySem.W.nsIn K mainGlobals "len" = some none)
    (z_enumerate : PySem.W.nsIn K mainGlobals "enumerate" = some none)
    (z_range : PySem.W.nsIn K mainGlobals "range" = some none)
    (z_isinstance : PySem.W.nsIn K mainGlobals "isinstance" = some none)
    (z_int : PySem.W.nsIn K mainGlobals "int" = some none)
    (z_bool : PySem.W.nsIn K mainGlobals "bool" = some none)
    (z_str : PySem.W.nsIn K mainGlobals "str" = some none)
    (z_tuple : PySem.W.nsIn K mainGlobals "tuple" = some none)
    (z_list : PySem.W.nsIn K mainGlobals "list" = some none)
    (z_sorted : PySem.W.nsIn K mainGlobals "sorted" = some none)
    (z_min : PySem.W.nsIn K mainGlobals "min" = some none) :
    ∃ fd : FuncData, (∀ (s : Shared) (v : Value), BindsTo s fd ⟨[v], []⟩ [("_law_script", v)]) ∧ ∀ base : Heap, K.In base → base.Ns mainGlobals mg → FnOk l.prog w K mg base CX0 7 fa fd ["_law_script"] (spLaw K) := by
  have e := hfa.symm.trans (PySem.W.mg_of X G a_g_law)
  cases e
  have T : Txt K mg C aW aT := ⟨⟨pg_C, hd_C, po_C, sa_C⟩, nf_C_awake, nf_C_gone, nf_C_holders, PySem.W.mg_of X G a_C, PySem.W.mg_of X G n_aW, PySem.W.mg_of X G n_aT,
    fun H => .inr ⟨_, _, _, l_aW, rfl, rfl, (by show 6 ≤ sizeLine; decide), .cons ⟨_, rfl⟩ (.cons ⟨_, rfl⟩ (.cons ⟨_, rfl⟩ (.cons ⟨_, rfl⟩ (.cons ⟨_, rfl⟩ (.cons ⟨_, rfl⟩ .nil)))))⟩,
    fun H => .inr ⟨_, _, _, l_aT, rfl, rfl, (by show 2 ≤ sizeLine; decide), .cons ⟨_, rfl⟩ (.cons ⟨_, rfl⟩ .nil)⟩,
    PySem.W.mg_none_of X G z_len, PySem.W.mg_none_of X G z_enumerate, PySem.W.mg_none_of X G z_range, PySem.W.mg_none_of X G z_isinstance, PySem.W.mg_none_of X G z_int, PySem.W.mg_none_of X G z_bool, PySem.W.mg_none_of X G z_str, PySem.W.mg_none_of X G z_tuple, PySem.W.mg_none_of X G z_list⟩
  have R : TxtR K mg CR := ⟨⟨pg_CR, hd_CR, po_CR, sa_CR⟩, nf_CR_many, nf_CR_size, nf_CR_all_deeds, PySem.W.mg_of X G a_CR, ⟨_, PySem.W.mg_of X G n_MOST_THREADS⟩, ⟨_, PySem.W.mg_of X G n_MOST_DEEDS⟩⟩
  have F_m_C_init := fun_mk (st := sInit) l_m_C_init c_m_C_init k_m_C_init
  have b_m_C_init : Binds K _ ["self"] [] := F_m_C_init.b1 fun _ _ _ _ _ _ _ => rfl
  have F_m_C_fault_of_thread := fun_mk (st := sTh) l_m_C_fault_of_thread c_m_C_fault_of_thread k_m_C_fault_of_thread
  have b_m_C_fault_of_thread : Binds K _ ["self", "thread"] [] := F_m_C_fault_of_thread.b2 fun _ _ _ _ _ _ _ _ => rfl
  have F_m_C_fault_of_word := fun_mk (st := sWo) l_m_C_fault_of_word c_m_C_fault_of_word k_m_C_fault_of_word
  have b_m_C_fault_of_word : Binds K _ ["self", "thread", "word", "thing"] [] := F_m_C_fault_of_word.b4 fun _ _ _ _ _ _ _ _ _ _ => rfl
  have F_m_C_follow := fun_mk (st := sFol) l_m_C_follow c_m_C_follow k_m_C_follow
  have b_m_C_follow : Binds K _ ["self", "thread", "word", "thing"] [] := F_m_C_follow.b4 fun _ _ _ _ _ _ _ _ _ _ => rfl
  have F_m_CR_init := fun_mk (st := sRow) l_m_CR_init c_m_CR_init k_m_CR_init
  have b_m_CR_init : Binds K _ ["self", "many", "deeds"] [] := F_m_CR_init.b3 fun _ _ _ _ _ _ _ _ _ => rfl
  have F_m_CR_deed := fun_mk (st := sDeed) l_m_CR_deed c_m_CR_deed k_m_CR_deed
  have b_m_CR_deed : Binds K _ ["self", "place"] [] := F_m_CR_deed.b2 fun _ _ _ _ _ _ _ _ => rfl
  have F_m_CR_deeds := fun_mk (st := sRDs) l_m_CR_deeds c_m_CR_deeds k_m_CR_deeds
  have b_m_CR_deeds : Binds K _ ["self"] [] := F_m_CR_deeds.b1 fun _ _ _ _ _ _ _ => rfl
  have F_g_fault_of_form := fun_mk (st := sForm) l_g_fault_of_form c_g_fault_of_form k_g_fault_of_form
  have b_g_fault_of_form : Binds K _ ["many", "thread", "word", "thing"] [] := F_g_fault_of_form.b4 fun _ _ _ _ _ _ _ _ _ _ => rfl
  have C_g_fault_of_form : Cal K mg "fault_of_form" f_g_fault_of_form _ ["many", "thread", "word", "thing"] := ⟨PySem.W.mg_of X G a_g_fault_of_form, k_g_fault_of_form, b_g_fault_of_form⟩
  have F_g_fault_of_deed := fun_mk (st := sOf) l_g_fault_of_deed c_g_fault_of_deed k_g_fault_of_deed
  have b_g_fault_of_deed : Binds K _ ["many", "past", "thread", "word", "thing"] [] := F_g_fault_of_deed.b5 fun _ _ _ _ _ _ _ _ _ _ _ => rfl
  have C_g_fault_of_deed : Cal K mg "fault_of_deed" f_g_fault_of_deed _ ["many", "past", "thread", "word", "thing"] := ⟨PySem.W.mg_of X G a_g_fault_of_deed, k_g_fault_of_deed, b_g_fault_of_deed⟩
  have F_g_fault := fun_mk (st := sFault) l_g_fault c_g_fault k_g_fault
  have b_g_fault : Binds K _ ["many", "deeds"] [] := F_g_fault.b2 fun _ _ _ _ _ _ _ _ => rfl
  have C_g_fault : Cal K mg "fault" f_g_fault _ ["many", "deeds"] := ⟨PySem.W.mg_of X G a_g_fault, k_g_fault, b_g_fault⟩
  have F_g_held := fun_mk (st := s_held) l_g_held c_g_held k_g_held
  have b_g_held : Binds K _ ["row"] [] := F_g_held.b1 fun _ _ _ _ _ _ _ => rfl
  have C_g_held : Cal K mg "held" f_g_held _ ["row"] := ⟨PySem.W.mg_of X G a_g_held, k_g_held, b_g_held⟩
  have F_g_in_common := fun_mk (st := s_in_common) l_g_in_common c_g_in_common k_g_in_common
  have b_g_in_common : Binds K _ ["some", "others"] [] := F_g_in_common.b2 fun _ _ _ _ _ _ _ _ => rfl
  have C_g_in_common : Cal K mg "in_common" f_g_in_common _ ["some", "others"] := ⟨PySem.W.mg_of X G a_g_in_common, k_g_in_common, b_g_in_common⟩
  have F_g_takes := fun_mk (st := s_takes) l_g_takes c_g_takes k_g_takes
  have b_g_takes : Binds K _ ["row"] [] := F_g_takes.b1 fun _ _ _ _ _ _ _ => rfl
  have C_g_takes : Cal K mg "takes" f_g_takes _ ["row"] := ⟨PySem.W.mg_of X G a_g_takes, k_g_takes, b_g_takes⟩
  have F_g_can_follow := fun_mk (st := s_can_follow) l_g_can_follow c_g_can_follow k_g_can_follow
  have b_g_can_follow : Binds K _ ["row", "locks", "chain", "place"] [] := F_g_can_follow.b4 fun _ _ _ _ _ _ _ _ _ _ => rfl
  have C_g_can_follow : Cal K mg "can_follow" f_g_can_follow _ ["row", "locks", "chain", "place"] := ⟨PySem.W.mg_of X G a_g_can_follow, k_g_can_follow, b_g_can_follow⟩
  have F_g_longer := fun_mk (st := s_longer) l_g_longer c_g_longer k_g_longer
  have b_g_longer : Binds K _ ["row", "locks", "chain"] [] := F_g_longer.b3 fun _ _ _ _ _ _ _ _ _ => rfl
  have C_g_longer : Cal K mg "longer" f_g_longer _ ["row", "locks", "chain"] := ⟨PySem.W.mg_of X G a_g_longer, k_g_longer, b_g_longer⟩
  have F_g_closes := fun_mk (st := s_closes) l_g_closes c_g_closes k_g_closes
  have b_g_closes : Binds K _ ["row", "locks", "chain"] [] := F_g_closes.b3 fun _ _ _ _ _ _ _ _ _ => rfl
  have C_g_closes : Cal K mg "closes" f_g_closes _ ["row", "locks", "chain"] := ⟨PySem.W.mg_of X G a_g_closes, k_g_closes, b_g_closes⟩
  have F_g_ring := fun_mk (st := s_ring) l_g_ring c_g_ring k_g_ring
  have b_g_ring : Binds K _ ["row"] [] := F_g_ring.b1 fun _ _ _ _ _ _ _ => rfl
  have C_g_ring : Cal K mg "ring" f_g_ring _ ["row"] := ⟨PySem.W.mg_of X G a_g_ring, k_g_ring, b_g_ring⟩
  have F_g_law_cell := fun_mk (st := s__law_cell) l_g_law_cell c_g_law_cell k_g_law_cell
  have b_g_law_cell : Binds K _ ["_law_script", "_law_k"] [] := F_g_law_cell.b2 fun _ _ _ _ _ _ _ _ => rfl
  have C_g_law_cell : Cal K mg "_law_cell" f_g_law_cell _ ["_law_script", "_law_k"] := ⟨PySem.W.mg_of X G a_g_law_cell, k_g_law_cell, b_g_law_cell⟩
  have F_g_law_whole := fun_mk (st := sWhole) l_g_law_whole c_g_law_whole k_g_law_whole
  have b_g_law_whole : Binds K _ ["_law_found"] [] := F_g_law_whole.b1 fun _ _ _ _ _ _ _ => rfl
  have C_g_law_whole : Cal K mg "_law_whole" f_g_law_whole _ ["_law_found"] := ⟨PySem.W.mg_of X G a_g_law_whole, k_g_law_whole, b_g_law_whole⟩
  have F_g_law_lock_deed := fun_mk (st := s__law_lock_deed) l_g_law_lock_deed c_g_law_lock_deed k_g_law_lock_deed
  have b_g_law_lock_deed : Binds K _ ["_law_thread", "_law_cell_here", "_law_first", "_law_holders"] [] := F_g_law_lock_deed.b4 fun _ _ _ _ _ _ _ _ _ _ => rfl
  have C_g_law_lock_deed : Cal K mg "_law_lock_deed" f_g_law_lock_deed _ ["_law_thread", "_law_cell_here", "_law_first", "_law_holders"] := ⟨PySem.W.mg_of X G a_g_law_lock_deed, k_g_law_lock_deed, b_g_law_lock_deed⟩
  have F_g_law_thread_deed := fun_mk (st := s__law_thread_deed) l_g_law_thread_deed c_g_law_thread_deed k_g_law_thread_deed
  have b_g_law_thread_deed : Binds K _ ["_law_thread", "_law_cell_here", "_law_awake", "_law_gone"] [] := F_g_law_thread_deed.b4 fun _ _ _ _ _ _ _ _ _ _ => rfl
  have C_g_law_thread_deed : Cal K mg "_law_thread_deed" f_g_law_thread_deed _ ["_law_thread", "_law_cell_here", "_law_awake", "_law_gone"] := ⟨PySem.W.mg_of X G a_g_law_thread_deed, k_g_law_thread_deed, b_g_law_thread_deed⟩
  have F_g_law_deeds := fun_mk (st := sDeeds) l_g_law_deeds c_g_law_deeds k_g_law_deeds
  have b_g_law_deeds : Binds K _ ["_law_script", "_law_many", "_law_most"] [] := F_g_law_deeds.b3 fun _ _ _ _ _ _ _ _ _ => rfl
  have C_g_law_deeds : Cal K mg "_law_deeds" f_g_law_deeds _ ["_law_script", "_law_many", "_law_most"] := ⟨PySem.W.mg_of X G a_g_law_deeds, k_g_law_deeds, b_g_law_deeds⟩
  have F_g_law_blocks := fun_mk (st := s__law_blocks) l_g_law_blocks c_g_law_blocks k_g_law_blocks
  have b_g_law_blocks : Binds K _ ["_law_script", "_law_many"] [] := F_g_law_blocks.b2 fun _ _ _ _ _ _ _ _ => rfl
  have C_g_law_blocks : Cal K mg "_law_blocks" f_g_law_blocks _ ["_law_script", "_law_many"] := ⟨PySem.W.mg_of X G a_g_law_blocks, k_g_law_blocks, b_g_law_blocks⟩
  have F_g_law_locks := fun_mk (st := s__law_locks) l_g_law_locks c_g_law_locks k_g_law_locks
  have b_g_law_locks : Binds K _ ["_law_many", "_law_deeds_here"] [] := F_g_law_locks.b2 fun _ _ _ _ _ _ _ _ => rfl
  have C_g_law_locks : Cal K mg "_law_locks" f_g_law_locks _ ["_law_many", "_law_deeds_here"] := ⟨PySem.W.mg_of X G a_g_law_locks, k_g_law_locks, b_g_law_locks⟩
  have F_g_law_ringed := fun_mk (st := s__law_ringed) l_g_law_ringed c_g_law_ringed k_g_law_ringed
  have b_g_law_ringed : Binds K _ ["_law_found", "_law_deeds_here", "_law_locks_here"] [] := F_g_law_ringed.b3 fun _ _ _ _ _ _ _ _ _ => rfl
  have C_g_law_ringed : Cal K mg "_law_ringed" f_g_law_ringed _ ["_law_found", "_law_deeds_here", "_law_locks_here"] := ⟨PySem.W.mg_of X G a_g_law_ringed, k_g_law_ringed, b_g_law_ringed⟩
  have F_g_law_next := fun_mk (st := s__law_next) l_g_law_next c_g_law_next k_g_law_next
  have b_g_law_next : Binds K _ ["_law_lines", "_law_at", "_law_thread"] [] := F_g_law_next.b3 fun _ _ _ _ _ _ _ _ _ => rfl
  have C_g_law_next : Cal K mg "_law_next" f_g_law_next _ ["_law_lines", "_law_at", "_law_thread"] := ⟨PySem.W.mg_of X G a_g_law_next, k_g_law_next, b_g_law_next⟩
  have F_g_law_can := fun_mk (st := s__law_can) l_g_law_can c_g_law_can k_g_law_can
  have b_g_law_can : Binds K _ ["_law_lines", "_law_at", "_law_awake", "_law_holders", "_law_thread"] [] := F_g_law_can.b5 fun _ _ _ _ _ _ _ _ _ _ _ => rfl
  have C_g_law_can : Cal K mg "_law_can" f_g_law_can _ ["_law_lines", "_law_at", "_law_awake", "_law_holders", "_law_thread"] := ⟨PySem.W.mg_of X G a_g_law_can, k_g_law_can, b_g_law_can⟩
  have F_g_law_knotted := fun_mk (st := s__law_knotted) l_g_law_knotted c_g_law_knotted k_g_law_knotted
  have b_g_law_knotted : Binds K _ ["_law_lines", "_law_at", "_law_awake", "_law_holders"] [] := F_g_law_knotted.b4 fun _ _ _ _ _ _ _ _ _ _ => rfl
  have C_g_law_knotted : Cal K mg "_law_knotted" f_g_law_knotted _ ["_law_lines", "_law_at", "_law_awake", "_law_holders"] := ⟨PySem.W.mg_of X G a_g_law_knotted, k_g_law_knotted, b_g_law_knotted⟩
  have F_g_law_comes_round := fun_mk (st := s__law_comes_round) l_g_law_comes_round c_g_law_comes_round k_g_law_comes_round
  have b_g_law_comes_round : Binds K _ ["_law_lines", "_law_many", "_law_picks_here"] [] := F_g_law_comes_round.b3 fun _ _ _ _ _ _ _ _ _ => rfl
  have C_g_law_comes_round : Cal K mg "_law_comes_round" f_g_law_comes_round _ ["_law_lines", "_law_many", "_law_picks_here"] := ⟨PySem.W.mg_of X G a_g_law_comes_round, k_g_law_comes_round, b_g_law_comes_round⟩
  have F_g_law_picks := fun_mk (st := s__law_picks) l_g_law_picks c_g_law_picks k_g_law_picks
  have b_g_law_picks : Binds K _ ["_law_script", "_law_way"] [] := F_g_law_picks.b2 fun _ _ _ _ _ _ _ _ => rfl
  have C_g_law_picks : Cal K mg "_law_picks" f_g_law_picks _ ["_law_script", "_law_way"] := ⟨PySem.W.mg_of X G a_g_law_picks, k_g_law_picks, b_g_law_picks⟩
  have F_g_law := fun_mk (st := sLaw) l_g_law c_g_law k_g_law
  exact ⟨PySem.W.fnOf "law" "law" (defArgs sLaw) (defBody sLaw) (defScope sLaw) .none kV_g_law dc_g_law pm_g_law an_g_law cd_g_law ct_g_law, fun s v => .of_eq rfl, fun base _ _ =>
    have GI : FnOk l.prog w K mg base CX0 1 f_m_C_init _ ["self"] (spInit C) := ok_init F_m_C_init T
    have GF : FnOk l.prog w K mg base CX0 1 f_m_C_follow _ ["self", "thread", "word", "thing"] (spFol C) := ok_fol F_m_C_follow T
    have GO := ok_of (P := l.prog) (w := w) (base := base) F_g_fault_of_deed T F_g_fault_of_form C_g_fault_of_form F_m_C_fault_of_thread b_m_C_fault_of_thread ⟨a_m_C_fault_of_thread, i_m_C_fault_of_thread, k_m_C_fault_of_thread⟩ F_m_C_fault_of_word b_m_C_fault_of_word ⟨a_m_C_fault_of_word, i_m_C_fault_of_word, k_m_C_fault_of_word⟩
    have GFault := ok_fault (P := l.prog) (w := w) (base := base) F_g_fault T GI ⟨mk_C, a_m_C_init, i_m_C_init, kc_C⟩ b_m_C_init GO C_g_fault_of_deed GF b_m_C_follow ⟨a_m_C_follow, i_m_C_follow, k_m_C_follow⟩
    have GRow := ok_row (P := l.prog) (w := w) (base := base) F_m_CR_init T R GFault C_g_fault
    have MRow : Mk K CR f_m_CR_init := ⟨mk_CR, a_m_CR_init, i_m_CR_init, kc_CR⟩
    have GDeed := ok_deed (P := l.prog) (w := w) (base := base) F_m_CR_deed R
    have MDeed : Meth K CR "deed" f_m_CR_deed := ⟨a_m_CR_deed, i_m_CR_deed, k_m_CR_deed⟩
    have GRDs := ok_rds (P := l.prog) (w := w) (base := base) F_m_CR_deeds T R
    have MRDs : Meth K CR "deeds" f_m_CR_deeds := ⟨a_m_CR_deeds, i_m_CR_deeds, k_m_CR_deeds⟩
    have GHeld := ok_held (P := l.prog) (w := w) (base := base) F_g_held T R (PySem.W.mg_none_of X G z_sorted) GRDs b_m_CR_deeds MRDs
    have GCom := ok_com (P := l.prog) (w := w) (base := base) F_g_in_common
    have GCell := ok_cell (P := l.prog) (w := w) (base := base) F_g_law_cell T
    have GLD := ok_ld (P := l.prog) (w := w) (base := base) F_g_law_lock_deed T (PySem.W.mg_none_of X G z_sorted)
    have GTD := ok_td (P := l.prog) (w := w) (base := base) F_g_law_thread_deed T
    have GDeeds := ok_deeds (P := l.prog) (w := w) (base := base) F_g_law_deeds T (PySem.W.mg_none_of X G z_min) GCell C_g_law_cell GLD C_g_law_lock_deed GTD C_g_law_thread_deed
    have GWhole := ok_whole (P := l.prog) (w := w) (base := base) F_g_law_whole T
    have GTakes := ok_takes (P := l.prog) (w := w) (base := base) F_g_takes T R GRDs b_m_CR_deeds MRDs
    have GCloses := ok_closes (P := l.prog) (w := w) (base := base) F_g_closes R GDeed b_m_CR_deed MDeed
    have GCan := ok_can (P := l.prog) (w := w) (base := base) F_g_can_follow R GDeed b_m_CR_deed MDeed GCom C_g_in_common
    have GLonger := ok_longer (P := l.prog) (w := w) (base := base) F_g_longer GTakes C_g_takes GCan C_g_can_follow
    have GRing := ok_ring (P := l.prog) (w := w) (base := base) F_g_ring GHeld C_g_held GTakes C_g_takes GCloses C_g_closes GLonger C_g_longer
    have GRinged := ok_ringed (P := l.prog) (w := w) (base := base) F_g_law_ringed T GWhole C_g_law_whole
    have GLocks := ok_locks (P := l.prog) (w := w) (base := base) F_g_law_locks T (PySem.W.mg_none_of X G z_sorted)
    have GBlocks := ok_blocks (P := l.prog) (w := w) (base := base) F_g_law_blocks T (PySem.W.mg_none_of X G z_min) GCell C_g_law_cell
    have GNext := ok_next (P := l.prog) (w := w) (base := base) F_g_law_next T
    have GCanR := ok_canr (P := l.prog) (w := w) (base := base) F_g_law_can GNext C_g_law_next
    have GKnot := ok_knot (P := l.prog) (w := w) (base := base) F_g_law_knotted T GNext C_g_law_next
    have GCR := ok_cr (P := l.prog) (w := w) (base := base) F_g_law_comes_round T GNext C_g_law_next GCanR C_g_law_can GKnot C_g_law_knotted
    have GPicks := ok_picks (P := l.prog) (w := w) (base := base) F_g_law_picks T GCell C_g_law_cell
    ok_law F_g_law T R GCell C_g_law_cell GDeeds C_g_law_deeds GBlocks C_g_law_blocks GLocks C_g_law_locks GRow b_m_CR_init MRow GRing C_g_ring GRinged C_g_law_ringed GPicks C_g_law_picks GCR C_g_law_comes_round⟩
theorem walk {l : PySem.W.OpenLaw} {q : Program} {loose : List Str} {XP : (Str → Option Value) → Heap → Prop} {YP : World → Heap → Prop} {d : DefRec} {K : Params → PySem.W.Frag} (hn : l.most = some 63) (hdf : d.params.defaults = [])
    (hY : ∀ (w : World) (h : Heap), YP w h → (K w.params).In h)
    (F : ∀ (w : World) (mg : Str → Option Value) (fa : Addr) (h : Heap), (K w.params).In h → h.Ns mainGlobals mg → mg d.name = some (.ref fa) →
      ∃ fd : FuncData, (∀ (s : Shared) (u : Value), BindsTo s fd ⟨[u], []⟩ [("_law_script", u)]) ∧ ∀ base : Heap, (K w.params).In base → base.Ns mainGlobals mg → FnOk l.prog w (K w.params) mg base CX0 7 fa fd ["_law_script"] (spLaw (K w.params))) :
    PySem.W.WalkO q loose XP YP l.row.toRowW d [] (fun f vs => PySem.call f vs) :=
  L2.walk_of (n := 63) (k := 7) (x := "_law_script") (CX := fun _ => CX0) (sp := fun w => spLaw (K w.params)) hn (by decide) hdf ⟨rfl, by decide, by decide, rfl⟩ hY F (fun _ _ a ns hl _ hS => ⟨a, ns, rfl, hS, hl, fun _ => rfl⟩) fun _ _ _ _ _ z => z
end K
namespace PySem.W.Fast
theorem tw15957459917960464842 : True := trivial
theorem tw11132115935790585317 : True := trivial
theorem tw13617787643189552030 : True := trivial
theorem tw14102121043491007713 : True := trivial
theorem tw9333120320015720637 : True := trivial
theorem tw11085410862093312039 : True := trivial
theorem tw14302074836858375897 : True := trivial
theorem tw6752028369266620028 : True := trivial
theorem tw3535483387301145613 : True := trivial
theorem tw15371842551559940498 : True := trivial
theorem tw12468514496239295097 : True := trivial
theorem tw16784268086578876318 : True := trivial
theorem tw15486209977750374164 : True := trivial
theorem tw15973006442402873441 : True := trivial
theorem tw4053551741922808164 : True := trivial
theorem tw18089900906416748642 : True := trivial
theorem tw11845395267827729825 : True := trivial
theorem tw7139458183474785603 : True := trivial
theorem tw7394049325349600891 : True := trivial
theorem tw14584683296512879506 : True := trivial
theorem tw8109697795151924416 : True := trivial
theorem tw7659673698921544700 : True := trivial
theorem tw15537636510788732397 : True := trivial
theorem tw17121327162411318671 : True := trivial
theorem tw5639780852651270655 : True := trivial
theorem tw17270513649732327445 : True := trivial
theorem tw1573316267927387212 : True := trivial
theorem tw3531090729993352238 : True := trivial
theorem tw1584643274316246435 : True := trivial
theorem tw9313774279438764596 : True := trivial
theorem tw530548881674347794 : True := trivial
theorem tw2080362888007251624 : True := trivial
theorem tw6347255151279611591 : True := trivial
theorem tw14959442838501454689 : True := trivial
theorem tw16175037234003570706 : True := trivial
theorem tw10554714169519759525 : True := trivial
theorem tw11067969098476393280 : True := trivial
theorem tw218183563082584514 : True := trivial
theorem tw5403743831801940423 : True := trivial
theorem tw789731032349107449 : True := trivial
theorem tw5630393878968902568 : True := trivial
theorem tw3125588096351868493 : True := trivial
theorem tw14931550508137175412 : True := trivial
theorem tw7011072673516244876 : True := trivial
theorem tw7313998360621981522 : True := trivial
theorem tw9414429492790713445 : True := trivial
theorem tw4869844216986262949 : True := trivial
theorem tw15916700777077281559 : True := trivial
theorem tw12349336689841525357 : True := trivial
theorem tw8702528774816768548 : True := trivial
theorem tw10855348356720814290 : True := trivial
theorem tw328559165452464336 : True := trivial
theorem tw7754510896554532500 : True := trivial
theorem tw5517451983392207213 : True := trivial
theorem tw9400239728670441585 : True := trivial
theorem tw14644216485166273112 : True := trivial
theorem tw9119224882786479695 : True := trivial
theorem tw6600981335219149061 : True := trivial
theorem tw9613812709601429034 : True := trivial
theorem tw15628346616238174131 : True := trivial
theorem tw11246736857350544466 : True := trivial
theorem tw6090705058933667601 : True := trivial
theorem tw15984344912587807157 : True := trivial
theorem tw1327121898779552876 : True := trivial
theorem tw9155711774450889598 : True := trivial
theorem tw790919521865349333 : True := trivial
theorem tw4653041180899236567 : True := trivial
theorem tw8632179414042317370 : True := trivial
theorem tw16914620380946507405 : True := trivial
theorem tw12525973016445366237 : True := trivial
theorem tw16338713088969178801 : True := trivial
theorem tw13572927958023765470 : True := trivial
theorem tw5946633451175208047 : True := trivial
theorem tw9483619991880338553 : True := trivial
theorem tw16841721947874421316 : True := trivial
theorem tw4833550731393374117 : True := trivial
theorem tw6946649951010914796 : True := trivial
theorem tw10813112649811046580 : True := trivial
theorem tw8490848241246782210 : True := trivial
theorem tw7161095215027198036 : True := trivial
theorem tw10157665293327094025 : True := trivial
theorem tw15646356236170699282 : True := trivial
theorem tw1775768504437558500 : True := trivial
theorem tw1560185434496148547 : True := trivial
theorem tw1250392573693215607 : True := trivial
theorem tw11305728535035132844 : True := trivial
theorem tw17811087216473591982 : True := trivial
theorem tw3620201548562801297 : True := trivial
theorem tw1967279436752422927 : True := trivial
theorem tw11027231446875094564 : True := trivial
theorem tw18257104050745205553 : True := trivial
theorem tw5561128924033247788 : True := trivial
theorem tw6316982285684770039 : True := trivial
theorem tw5716423125572912691 : True := trivial
theorem tw12178161316298452291 : True := trivial
theorem tw14146419745665010948 : True := trivial
theorem tw10783057610022408230 : True := trivial
theorem tw12825543466948728633 : True := trivial
theorem tw12928697336857397638 : True := trivial
theorem tw13350413774476307550 : True := trivial
theorem tw13487071666904379057 : True := trivial
theorem tw10930588259173460185 : True := trivial
theorem tw12053968284771213321 : True := trivial
theorem tw15628108714984148117 : True := trivial
theorem tw10346991586967122857 : True := trivial
theorem tw16212822494707966764 : True := trivial
theorem tw10834687444218291100 : True := trivial
theorem tw1676164522077657513 : True := trivial
theorem tw6651823440264438116 : True := trivial
theorem tw2096954169324161955 : True := trivial
theorem tw16571668300578449719 : True := trivial
theorem tw1447039597053671924 : True := trivial
theorem tw1100833604280317264 : True := trivial
theorem tw9894552368105292263 : True := trivial
theorem tw6057732020295069876 : True := trivial
theorem tw5666761835138925913 : True := trivial
theorem tw2519930671308368549 : True := trivial
theorem tw2861200840470769090 : True := trivial
theorem tw10351394385483255591 : True := trivial
theorem tw2273400393563340816 : True := trivial
theorem tw5911378190296688987 : True := trivial
theorem tw13738671266061739612 : True := trivial
theorem tw3686027018987831226 : True := trivial
theorem tw3371955683041803520 : True := trivial
theorem tw2219937490395927294 : True := trivial
theorem tw12308183222271724723 : True := trivial
theorem tw16646890151268577442 : True := trivial
theorem tw5340099221597064719 : True := trivial
theorem tw7129465610093002794 : True := trivial
theorem tw17810925628678213094 : True := trivial
theorem tw4857588303880534066 : True := trivial
theorem tw875631952445368296 : True := trivial
theorem tw4633122920409269425 : True := trivial
theorem tw17597577504263718730 : True := trivial
theorem tw8691236003806707864 : True := trivial
theorem tw9372265943083650163 : True := trivial
theorem tw17249974128286881615 : True := trivial
theorem tw12436787561203971923 : True := trivial
theorem tw8495049284258133576 : True := trivial
theorem tw11367104250543655800 : True := trivial
theorem tw9592908844330641205 : True := trivial
theorem tw4502092705972493515 : True := trivial
theorem tw16984785915878121784 : True := trivial
theorem tw1674842095250320517 : True := trivial
theorem tw5227398050266854210 : True := trivial
theorem tw14478488896036368502 : True := trivial
theorem tw4036561648649596919 : True := trivial
theorem tw1367081227946203511 : True := trivial
theorem tw6396343604356341946 : True := trivial
theorem tw17987029829747359361 : True := trivial
theorem tw16595020237895264070 : True := trivial
theorem tw12303823685912269506 : True := trivial
theorem tw13939015407648157289 : True := trivial
theorem tw4239333444638380074 : True := trivial
theorem tw18298378253515793177 : True := trivial
theorem tw2039493898711942232 : True := trivial
theorem tw10698754337887159124 : True := trivial
theorem tw14020047333595481944 : True := trivial
theorem tw7930726625757429590 : True := trivial
theorem tw13852352674849874894 : True := trivial
theorem tw7458035727375918231 : True := trivial
theorem tw12983310992084369359 : True := trivial
theorem tw8507653759143289815 : True := trivial
theorem tw2173711465953721562 : True := trivial
theorem tw14893303864188384189 : True := trivial
theorem tw4295777004595029124 : True := trivial
theorem tw18203763462335831425 : True := trivial
theorem tw6451822283946751872 : True := trivial
theorem tw13214935580815046510 : True := trivial
theorem tw15237031417138196482 : True := trivial
theorem tw17771818188510135187 : True := trivial
theorem tw7268353042061791179 : True := trivial
theorem tw7322617604814907258 : True := trivial
theorem tw2375542100969520476 : True := trivial
theorem tw11385201684195850658 : True := trivial
theorem tw11274661552786656958 : True := trivial
theorem tw3768475211748591323 : True := trivial
theorem tw2302795971240955908 : True := trivial
theorem tw3268944800772468411 : True := trivial
theorem tw6431115629109234925 : True := trivial
theorem tw17885661553318392619 : True := trivial
theorem tw7265688629230595384 : True := trivial
theorem tw13312466938609785830 : True := trivial
theorem tw7223540493838376638 : True := trivial
theorem tw14315804619498502353 : True := trivial
theorem tw8668876491110394545 : True := trivial
theorem tw11340753936258490007 : True := trivial
theorem tw155286775757797053 : True := trivial
theorem tw2218001879724129766 : True := trivial
theorem tw9619777366523013103 : True := trivial
theorem tw5641338442855954054 : True := trivial
theorem tw12799167247175871927 : True := trivial
theorem tw1884416722918345640 : True := trivial
theorem tw11741527974561616844 : True := trivial
theorem tw4489730820843631916 : True := trivial
theorem tw15156855401811292595 : True := trivial
theorem tw1554668197653465013 : True := trivial
theorem tw14313206884996243006 : True := trivial
theorem tw9279460364720636238 : True := trivial
theorem tw15353293927197289901 : True := trivial
theorem tw6341744415476896981 : True := trivial
theorem tw1402227007761722693 : True := trivial
theorem tw11558525989894747763 : True := trivial
theorem tw10556757344462058572 : True := trivial
theorem tw6686602593230576411 : True := trivial
theorem tw15756434603302730591 : True := trivial
theorem tw13372981425426285493 : True := trivial
theorem tw13962467394858896831 : True := trivial
theorem tw7537332310774370679 : True := trivial
theorem tw18229467440146132697 : True := trivial
theorem tw15122058533082636780 : True := trivial
theorem tw13143335210609072434 : True := trivial
theorem tw16471098601109067416 : True := trivial
theorem tw5839211125263038284 : True := trivial
theorem tw11241441387372764867 : True := trivial
theorem tw5307923863505181431 : True := trivial
theorem tw16965727047989537388 : True := trivial
theorem tw2930748388796532383 : True := trivial
theorem tw17998220822362141227 : True := trivial
theorem tw13800313884337087483 : True := trivial
theorem tw7754978538253526988 : True := trivial
theorem tw6523481768158373711 : True := trivial
theorem tw14138330236366195294 : True := trivial
theorem tw15812884933918489915 : True := trivial
theorem tw5091329947202936149 : True := trivial
theorem tw8955931191051343789 : True := trivial
theorem tw10915471312738800641 : True := trivial
theorem tw13136076979546270283 : True := trivial
theorem tw16674124764360498757 : True := trivial
theorem tw1582957354629905214 : True := trivial
theorem tw4084244123814760453 : True := trivial
theorem tw18142695372807920302 : True := trivial
theorem tw13060513723448382700 : True := trivial
theorem tw251704695577156438 : True := trivial
theorem tw5403442982170950066 : True := trivial
theorem tw4513647495288186725 : True := trivial
theorem tw17121330713246567441 : True := trivial
theorem tw13268996336966604728 : True := trivial
theorem tw11272475173569322450 : True := trivial
theorem tw17631710716619400061 : True := trivial
theorem tw8965516717183593138 : True := trivial
theorem tw4848833126835731150 : True := trivial
theorem tw7703049775718168056 : True := trivial
theorem tw9326145010578244749 : True := trivial
theorem tw12145568290200433985 : True := trivial
theorem tw13100973674234013831 : True := trivial
theorem tw13313419570586739904 : True := trivial
theorem tw2918033159077660330 : True := trivial
theorem tw13447008761407257061 : True := trivial
theorem tw12170619960675449644 : True := trivial
theorem tw12309854357015750134 : True := trivial
theorem tw14253655621179503690 : True := trivial
theorem tw18241406508954554483 : True := trivial
theorem tw9956606927939229003 : True := trivial
theorem tw4427978661039068765 : True := trivial
theorem tw14461510543334965787 : True := trivial
theorem tw16852945987190008582 : True := trivial
theorem tw11573845914168270577 : True := trivial
theorem tw13501476582754321464 : True := trivial
theorem tw2286423023409635375 : True := trivial
theorem tw17768999857773143335 : True := trivial
theorem tw15255546605248578409 : True := trivial
theorem tw3948282815298249141 : True := trivial
end PySem.W.Fast
theorem PySem.W.Fast.te3315102991528578785 : True := trivial
open PySem PySem.W PyProof.Rows
set_option maxRecDepth 100000 in
set_option maxHeartbeats 0 in
theorem PySem.Challenge.cw_racewise_k19_whole_knots_show_a_ring_holds : PySem.Challenge.rw_racewise_k19_whole_knots_show_a_ring.Holds := by
  w_on; o_law; k_head; (case hw => w_witness2)
  k_fill
  refine K.walk (l := PySem.Challenge.rw_racewise_k19_whole_knots_show_a_ring) rfl rfl (fun w h Y => PySem.W.kIn_of Y) ?F
  case F =>
    intro w mg fa h KX G hmg
    refine' K.all_mk KX G hmg ?a_C ?a_CR ?a_m_C_init ?i_m_C_init ?l_m_C_init ?c_m_C_init ?k_m_C_init ?a_m_C_fault_of_thread ?i_m_C_fault_of_thread ?l_m_C_fault_of_thread ?c_m_C_fault_of_thread ?k_m_C_fault_of_thread ?a_m_C_fault_of_word ?i_m_C_fault_of_word ?l_m_C_fault_of_word ?c_m_C_fault_of_word ?k_m_C_fault_of_word ?a_m_C_follow ?i_m_C_follow ?l_m_C_follow ?c_m_C_follow ?k_m_C_follow ?a_m_CR_init ?i_m_CR_init ?l_m_CR_init ?c_m_CR_init ?k_m_CR_init ?a_m_CR_deed ?i_m_CR_deed ?l_m_CR_deed ?c_m_CR_deed ?k_m_CR_deed ?a_m_CR_deeds ?i_m_CR_deeds ?l_m_CR_deeds ?c_m_CR_deeds ?k_m_CR_deeds ?a_g_fault_of_form ?l_g_fault_of_form ?c_g_fault_of_form ?k_g_fault_of_form ?a_g_fault_of_deed ?l_g_fault_of_deed ?c_g_fault_of_deed ?k_g_fault_of_deed ?a_g_fault ?l_g_fault ?c_g_fault ?k_g_fault ?a_g_held ?l_g_held ?c_g_held ?k_g_held ?a_g_in_common ?l_g_in_common ?c_g_in_common ?k_g_in_common ?a_g_takes ?l_g_takes ?c_g_takes ?k_g_takes ?a_g_can_follow ?l_g_can_follow ?c_g_can_follow ?k_g_can_follow ?a_g_longer ?l_g_longer ?c_g_longer ?k_g_longer ?a_g_closes ?l_g_closes ?c_g_closes ?k_g_closes ?a_g_ring ?l_g_ring ?c_g_ring ?k_g_ring ?a_g_law_cell ?l_g_law_cell ?c_g_law_cell ?k_g_law_cell ?a_g_law_whole ?l_g_law_whole ?c_g_law_whole ?k_g_law_whole ?a_g_law_lock_deed ?l_g_law_lock_deed ?c_g_law_lock_deed ?k_g_law_lock_deed ?a_g_law_thread_deed ?l_g_law_thread_deed ?c_g_law_thread_deed ?k_g_law_thread_deed ?a_g_law_deeds ?l_g_law_deeds ?c_g_law_deeds ?k_g_law_deeds ?a_g_law_blocks ?l_g_law_blocks ?c_g_law_blocks ?k_g_law_blocks ?a_g_law_locks ?l_g_law_locks ?c_g_law_locks ?k_g_law_locks ?a_g_law_ringed ?l_g_law_ringed ?c_g_law_ringed ?k_g_law_ringed ?a_g_law_next ?l_g_law_next ?c_g_law_next ?k_g_law_next ?a_g_law_can ?l_g_law_can ?c_g_law_can ?k_g_law_can ?a_g_law_knotted ?l_g_law_knotted ?c_g_law_knotted ?k_g_law_knotted ?a_g_law_comes_round ?l_g_law_comes_round ?c_g_law_comes_round ?k_g_law_comes_round ?a_g_law_picks ?l_g_law_picks ?c_g_law_picks ?k_g_law_picks ?a_g_law ?l_g_law ?c_g_law ?k_g_law ?n_aW ?l_aW ?n_aT ?l_aT ?n_MOST_THREADS ?n_MOST_DEEDS ?pg_C ?hd_C ?po_C ?sa_C ?mk_C ?kc_C ?nf_C_awake ?nf_C_gone ?nf_C_holders ?pg_CR ?hd_CR ?po_CR ?sa_CR ?mk_CR ?kc_CR ?nf_CR_many ?nf_CR_size ?nf_CR_all_deeds ?z_len ?z_enumerate ?z_range ?z_isinstance ?z_int ?z_bool ?z_str ?z_tuple ?z_list ?z_sorted ?z_min
    (case a_C => first | k_is | k_exc | kit_is | rfl | decide)
    (case a_CR => first | k_is | k_exc | kit_is | rfl | decide)
    (case a_m_C_init => first | k_is | k_exc | kit_is | rfl | decide)
    (case i_m_C_init => first | k_is | k_exc | kit_is | rfl | decide)
    (case l_m_C_init => first | k_is | k_exc | kit_is | rfl | decide)
    (case c_m_C_init => first | k_is | k_exc | kit_is | rfl | decide)
    (case k_m_C_init => first | k_is | k_exc | kit_is | rfl | decide)
    (case a_m_C_fault_of_thread => first | k_is | k_exc | kit_is | rfl | decide)
    (case i_m_C_fault_of_thread => first | k_is | k_exc | kit_is | rfl | decide)
    (case l_m_C_fault_of_thread => first | k_is | k_exc | kit_is | rfl | decide)
    (case c_m_C_fault_of_thread => first | k_is | k_exc | kit_is | rfl | decide)
    (case k_m_C_fault_of_thread => first | k_is | k_exc | kit_is | rfl | decide)
    (case a_m_C_fault_of_word => first | k_is | k_exc | kit_is | rfl | decide)
    (case i_m_C_fault_of_word => first | k_is | k_exc | kit_is | rfl | decide)
    (case l_m_C_fault_of_word => first | k_is | k_exc | kit_is | rfl | decide)
    (case c_m_C_fault_of_word => first | k_is | k_exc | kit_is | rfl | decide)
    (case k_m_C_fault_of_word => first | k_is | k_exc | kit_is | rfl | decide)
    (case a_m_C_follow => first | k_is | k_exc | kit_is | rfl | decide)
    (case i_m_C_follow => first | k_is | k_exc | kit_is | rfl | decide)
    (case l_m_C_follow => first | k_is | k_exc | kit_is | rfl | decide)
    (case c_m_C_follow => first | k_is | k_exc | kit_is | rfl | decide)
    (case k_m_C_follow => first | k_is | k_exc | kit_is | rfl | decide)
    (case a_m_CR_init => first | k_is | k_exc | kit_is | rfl | decide)
    (case i_m_CR_init => first | k_is | k_exc | kit_is | rfl | decide)
    (case l_m_CR_init => first | k_is | k_exc | kit_is | rfl | decide)
    (case c_m_CR_init => first | k_is | k_exc | kit_is | rfl | decide)
    (case k_m_CR_init => first | k_is | k_exc | kit_is | rfl | decide)
    (case a_m_CR_deed => first | k_is | k_exc | kit_is | rfl | decide)
    (case i_m_CR_deed => first | k_is | k_exc | kit_is | rfl | decide)
    (case l_m_CR_deed => first | k_is | k_exc | kit_is | rfl | decide)
    (case c_m_CR_deed => first | k_is | k_exc | kit_is | rfl | decide)
    (case k_m_CR_deed => first | k_is | k_exc | kit_is | rfl | decide)
    (case a_m_CR_deeds => first | k_is | k_exc | kit_is | rfl | decide)
    (case i_m_CR_deeds => first | k_is | k_exc | kit_is | rfl | decide)
    (case l_m_CR_deeds => first | k_is | k_exc | kit_is | rfl | decide)
    (case c_m_CR_deeds => first | k_is | k_exc | kit_is | rfl | decide)
    (case k_m_CR_deeds => first | k_is | k_exc | kit_is | rfl | decide)
    (case a_g_fault_of_form => first | k_is | k_exc | kit_is | rfl | decide)
    (case l_g_fault_of_form => first | k_is | k_exc | kit_is | rfl | decide)
    (case c_g_fault_of_form => first | k_is | k_exc | kit_is | rfl | decide)
    (case k_g_fault_of_form => first | k_is | k_exc | kit_is | rfl | decide)
    (case a_g_fault_of_deed => first | k_is | k_exc | kit_is | rfl | decide)
    (case l_g_fault_of_deed => first | k_is | k_exc | kit_is | rfl | decide)
    (case c_g_fault_of_deed => first | k_is | k_exc | kit_is | rfl | decide)
    (case k_g_fault_of_deed => first | k_is | k_exc | kit_is | rfl | decide)
    (case a_g_fault => first | k_is | k_exc | kit_is | rfl | decide)
    (case l_g_fault => first | k_is | k_exc | kit_is | rfl | decide)
    (case c_g_fault => first | k_is | k_exc | kit_is | rfl | decide)
    (case k_g_fault => first | k_is | k_exc | kit_is | rfl | decide)
    (case a_g_held => first | k_is | k_exc | kit_is | rfl | decide)
    (case l_g_held => first | k_is | k_exc | kit_is | rfl | decide)
    (case c_g_held => first | k_is | k_exc | kit_is | rfl | decide)
    (case k_g_held => first | k_is | k_exc | kit_is | rfl | decide)
    (case a_g_in_common => first | k_is | k_exc | kit_is | rfl | decide)
    (case l_g_in_common => first | k_is | k_exc | kit_is | rfl | decide)
    (case c_g_in_common => first | k_is | k_exc | kit_is | rfl | decide)
    (case k_g_in_common => first | k_is | k_exc | kit_is | rfl | decide)
    (case a_g_takes => first | k_is | k_exc | kit_is | rfl | decide)
    (case l_g_takes => first | k_is | k_exc | kit_is | rfl | decide)
    (case c_g_takes => first | k_is | k_exc | kit_is | rfl | decide)
    (case k_g_takes => first | k_is | k_exc | kit_is | rfl | decide)
    (case a_g_can_follow => first | k_is | k_exc | kit_is | rfl | decide)
    (case l_g_can_follow => first | k_is | k_exc | kit_is | rfl | decide)
    (case c_g_can_follow => first | k_is | k_exc | kit_is | rfl | decide)
    (case k_g_can_follow => first | k_is | k_exc | kit_is | rfl | decide)
    (case a_g_longer => first | k_is | k_exc | kit_is | rfl | decide)
    (case l_g_longer => first | k_is | k_exc | kit_is | rfl | decide)
    (case c_g_longer => first | k_is | k_exc | kit_is | rfl | decide)
    (case k_g_longer => first | k_is | k_exc | kit_is | rfl | decide)
    (case a_g_closes => first | k_is | k_exc | kit_is | rfl | decide)
    (case l_g_closes => first | k_is | k_exc | kit_is | rfl | decide)
    (case c_g_closes => first | k_is | k_exc | kit_is | rfl | decide)
    (case k_g_closes => first | k_is | k_exc | kit_is | rfl | decide)
    (case a_g_ring => first | k_is | k_exc | kit_is | rfl | decide)
    (case l_g_ring => first | k_is | k_exc | kit_is | rfl | decide)
    (case c_g_ring => first | k_is | k_exc | kit_is | rfl | decide)
    (case k_g_ring => first | k_is | k_exc | kit_is | rfl | decide)
    (case a_g_law_cell => first | k_is | k_exc | kit_is | rfl | decide)
    (case l_g_law_cell => first | k_is | k_exc | kit_is | rfl | decide)
    (case c_g_law_cell => first | k_is | k_exc | kit_is | rfl | decide)
    (case k_g_law_cell => first | k_is | k_exc | kit_is | rfl | decide)
    (case a_g_law_whole => first | k_is | k_exc | kit_is | rfl | decide)
    (case l_g_law_whole => first | k_is | k_exc | kit_is | rfl | decide)
    (case c_g_law_whole => first | k_is | k_exc | kit_is | rfl | decide)
    (case k_g_law_whole => first | k_is | k_exc | kit_is | rfl | decide)
    (case a_g_law_lock_deed => first | k_is | k_exc | kit_is | rfl | decide)
    (case l_g_law_lock_deed => first | k_is | k_exc | kit_is | rfl | decide)
    (case c_g_law_lock_deed => first | k_is | k_exc | kit_is | rfl | decide)
    (case k_g_law_lock_deed => first | k_is | k_exc | kit_is | rfl | decide)
    (case a_g_law_thread_deed => first | k_is | k_exc | kit_is | rfl | decide)
    (case l_g_law_thread_deed => first | k_is | k_exc | kit_is | rfl | decide)
    (case c_g_law_thread_deed => first | k_is | k_exc | kit_is | rfl | decide)
    (case k_g_law_thread_deed => first | k_is | k_exc | kit_is | rfl | decide)
    (case a_g_law_deeds => first | k_is | k_exc | kit_is | rfl | decide)
    (case l_g_law_deeds => first | k_is | k_exc | kit_is | rfl | decide)
    (case c_g_law_deeds => first | k_is | k_exc | kit_is | rfl | decide)
    (case k_g_law_deeds => first | k_is | k_exc | kit_is | rfl | decide)
    (case a_g_law_blocks => first | k_is | k_exc | kit_is | rfl | decide)
    (case l_g_law_blocks => first | k_is | k_exc | kit_is | rfl | decide)
    (case c_g_law_blocks => first | k_is | k_exc | kit_is | rfl | decide)
    (case k_g_law_blocks => first | k_is | k_exc | kit_is | rfl | decide)
    (case a_g_law_locks => first | k_is | k_exc | kit_is | rfl | decide)
    (case l_g_law_locks => first | k_is | k_exc | kit_is | rfl | decide)
    (case c_g_law_locks => first | k_is | k_exc | kit_is | rfl | decide)
    (case k_g_law_locks => first | k_is | k_exc | kit_is | rfl | decide)
    (case a_g_law_ringed => first | k_is | k_exc | kit_is | rfl | decide)
    (case l_g_law_ringed => first | k_is | k_exc | kit_is | rfl | decide)
    (case c_g_law_ringed => first | k_is | k_exc | kit_is | rfl | decide)
    (case k_g_law_ringed => first | k_is | k_exc | kit_is | rfl | decide)
    (case a_g_law_next => first | k_is | k_exc | kit_is | rfl | decide)
    (case l_g_law_next => first | k_is | k_exc | kit_is | rfl | decide)
    (case c_g_law_next => first | k_is | k_exc | kit_is | rfl | decide)
    (case k_g_law_next => first | k_is | k_exc | kit_is | rfl | decide)
    (case a_g_law_can => first | k_is | k_exc | kit_is | rfl | decide)
    (case l_g_law_can => first | k_is | k_exc | kit_is | rfl | decide)
    (case c_g_law_can => first | k_is | k_exc | kit_is | rfl | decide)
    (case k_g_law_can => first | k_is | k_exc | kit_is | rfl | decide)
    (case a_g_law_knotted => first | k_is | k_exc | kit_is | rfl | decide)
    (case l_g_law_knotted => first | k_is | k_exc | kit_is | rfl | decide)
    (case c_g_law_knotted => first | k_is | k_exc | kit_is | rfl | decide)
    (case k_g_law_knotted => first | k_is | k_exc | kit_is | rfl | decide)
    (case a_g_law_comes_round => first | k_is | k_exc | kit_is | rfl | decide)
    (case l_g_law_comes_round => first | k_is | k_exc | kit_is | rfl | decide)
    (case c_g_law_comes_round => first | k_is | k_exc | kit_is | rfl | decide)
    (case k_g_law_comes_round => first | k_is | k_exc | kit_is | rfl | decide)
    (case a_g_law_picks => first | k_is | k_exc | kit_is | rfl | decide)
    (case l_g_law_picks => first | k_is | k_exc | kit_is | rfl | decide)
    (case c_g_law_picks => first | k_is | k_exc | kit_is | rfl | decide)
    (case k_g_law_picks => first | k_is | k_exc | kit_is | rfl | decide)
    (case a_g_law => first | k_is | k_exc | kit_is | rfl | decide)
    (case l_g_law => first | k_is | k_exc | kit_is | rfl | decide)
    (case c_g_law => first | k_is | k_exc | kit_is | rfl | decide)
    (case k_g_law => first | k_is | k_exc | kit_is | rfl | decide)
    (case n_aW => first | k_is | k_exc | kit_is | rfl | decide)
    (case l_aW => first | k_is | k_exc | kit_is | rfl | decide)
    (case n_aT => first | k_is | k_exc | kit_is | rfl | decide)
    (case l_aT => first | k_is | k_exc | kit_is | rfl | decide)
    (case n_MOST_THREADS => first | k_is | k_exc | kit_is | rfl | decide)
    (case n_MOST_DEEDS => first | k_is | k_exc | kit_is | rfl | decide)
    (case pg_C => first | k_is | k_exc | kit_is | rfl | decide)
    (case hd_C => first | k_is | k_exc | kit_is | rfl | decide)
    (case po_C => first | k_is | k_exc | kit_is | rfl | decide)
    (case sa_C => first | k_is | k_exc | kit_is | rfl | decide)
    (case mk_C => first | k_is | k_exc | kit_is | rfl | decide)
    (case kc_C => first | k_is | k_exc | kit_is | rfl | decide)
    (case nf_C_awake => first | k_is | k_exc | kit_is | rfl | decide)
    (case nf_C_gone => first | k_is | k_exc | kit_is | rfl | decide)
    (case nf_C_holders => first | k_is | k_exc | kit_is | rfl | decide)
    (case pg_CR => first | k_is | k_exc | kit_is | rfl | decide)
    (case hd_CR => first | k_is | k_exc | kit_is | rfl | decide)
    (case po_CR => first | k_is | k_exc | kit_is | rfl | decide)
    (case sa_CR => first | k_is | k_exc | kit_is | rfl | decide)
    (case mk_CR => first | k_is | k_exc | kit_is | rfl | decide)
    (case kc_CR => first | k_is | k_exc | kit_is | rfl | decide)
    (case nf_CR_many => first | k_is | k_exc | kit_is | rfl | decide)
    (case nf_CR_size => first | k_is | k_exc | kit_is | rfl | decide)
    (case nf_CR_all_deeds => first | k_is | k_exc | kit_is | rfl | decide)
    (case z_len => first | k_is | k_exc | kit_is | rfl | decide)
    (case z_enumerate => first | k_is | k_exc | kit_is | rfl | decide)
    (case z_range => first | k_is | k_exc | kit_is | rfl | decide)
    (case z_isinstance => first | k_is | k_exc | kit_is | rfl | decide)
    (case z_int => first | k_is | k_exc | kit_is | rfl | decide)
    (case z_bool => first | k_is | k_exc | kit_is | rfl | decide)
    (case z_str => first | k_is | k_exc | kit_is | rfl | decide)
    (case z_tuple => first | k_is | k_exc | kit_is | rfl | decide)
    (case z_list => first | k_is | k_exc | kit_is | rfl | decide)
    (case z_sorted => first | k_is | k_exc | kit_is | rfl | decide)
    (case z_min => first | k_is | k_exc | kit_is | rfl | decide)
#print axioms PySem.Challenge.cw_racewise_k19_whole_knots_show_a_ring_holds
