import PyProof.Rows.All
import Wide.All
import OpenK.AllK
import Wide.FinOn
import Lean
import PyProof.EqAt
import PyProof.EqKinds
import PyProof.TupleCall
import PyProof.Walks
import PySem.Challenge.RW_racewise_k13_whole_first_race_sees_alike
import PyProof.P3Eq
set_option Elab.async false
set_option linter.all false
set_option maxRecDepth 100000
namespace L2
open PySem PySem.Spec PyProof.Rows
abbrev Key := Sum Int Str
def keyIs : Key → Value → Bool
  | .inl k, v => Value.isInt k v
  | .inr x, v => Value.isStrOf x v
def keyH (w : World) : Key → Int
  | .inl k => hashInt k
  | .inr x => hashStr w x
theorem keyIs_shape : ∀ {k : Key} {v : Value}, keyIs k v = true → (∃ i t, k = Sum.inl i ∧ v = Value.int i t) ∨ (∃ x t, k = Sum.inr x ∧ v = Value.str x t)
  | .inl i, v, h => by
    obtain ⟨t, e⟩ := Value.isInt_shape (k := i) (v := v) h
    exact .inl ⟨i, t, rfl, e⟩
  | .inr x, v, h => by
    obtain ⟨t, e⟩ := Value.isStrOf_shape (x := x) (v := v) h
    exact .inr ⟨x, t, rfl, e⟩
theorem keyIs_int (i : Int) (t : Tok) : keyIs (.inl i) (.int i t) = true := by simp [keyIs, Value.isInt]
theorem keyIs_str (x : Str) (t : Tok) : keyIs (.inr x) (.str x t) = true := by simp [keyIs, Value.isStrOf]
theorem key_ll (a b : Int) : decide ((Sum.inl a : Key) = Sum.inl b) = (a == b) := by
  by_cases e : a = b
  · subst e; simp
  · have h : ¬ (Sum.inl a : Key) = Sum.inl b := fun q => e (Sum.inl.inj q)
    rw [decide_eq_false h]
    exact (beq_eq_false_iff_ne.mpr e).symm
theorem key_rr (a b : Str) : decide ((Sum.inr a : Key) = Sum.inr b) = decide (a = b) := by
  by_cases e : a = b
  · subst e; simp
  · have h : ¬ (Sum.inr a : Key) = Sum.inr b := fun q => e (Sum.inr.inj q)
    rw [decide_eq_false h, decide_eq_false e]
theorem key_lr (a : Int) (b : Str) : decide ((Sum.inl a : Key) = Sum.inr b) = false := decide_eq_false (fun q => nomatch q)
theorem key_rl (a : Str) (b : Int) : decide ((Sum.inr a : Key) = Sum.inl b) = false := decide_eq_false (fun q => nomatch q)
def mixKind (prog : Program) (w : World) : PySem.KeyKind prog w Key where
  is := keyIs
  hash := keyH w
  inj := fun v a b ha hb => by
    rcases keyIs_shape ha with ⟨i, t, rfl, rfl⟩ | ⟨x, t, rfl, rfl⟩
    · rcases keyIs_shape hb with ⟨j, u, rfl, e⟩ | ⟨y, u, rfl, e⟩
      · injection e with e1 _; rw [e1]
      · exact nomatch e
    · rcases keyIs_shape hb with ⟨j, u, rfl, e⟩ | ⟨y, u, rfl, e⟩
      · exact nomatch e
      · injection e with e1 _; rw [e1]
  byValue := fun k v h => by
    rcases keyIs_shape h with ⟨i, t, rfl, rfl⟩ | ⟨x, t, rfl, rfl⟩ <;> rfl
  pyHash := fun hv h => by
    rcases keyIs_shape hv with ⟨i, t, rfl, rfl⟩ | ⟨x, t, rfl, rfl⟩
    · exact wpAny_pyHash_int h
    · exact wpAny_pyHash_str h
  eqBool := fun hu hv h => by
    rcases keyIs_shape hu with ⟨i, t, rfl, rfl⟩ | ⟨x, t, rfl, rfl⟩
    · rcases keyIs_shape hv with ⟨j, u, rfl, rfl⟩ | ⟨y, u, rfl, rfl⟩
      · rw [key_ll] at h; exact wpAny_eqBool_int h
      · rw [key_lr] at h; exact SeqAt.EqAt.int_str i t y u _ _ _ _ h
    · rcases keyIs_shape hv with ⟨j, u, rfl, rfl⟩ | ⟨y, u, rfl, rfl⟩
      · rw [key_rl] at h; exact SeqAt.EqAt.str_int x t j u _ _ _ _ h
      · rw [key_rr] at h; exact wpAny_eqBool_str h
  «strs» := fun k x t v h => by
    rcases keyIs_shape h with ⟨i, u, rfl, e⟩ | ⟨y, u, rfl, e⟩
    · exact nomatch e
    · injection e with e1 _
      subst e1
      cases v <;> rfl
theorem mixKind_int (prog : Program) (w : World) (i : Int) (t : Tok) : (mixKind prog w).is (.inl i) (.int i t) = true := keyIs_int i t
theorem mixKind_str (prog : Program) (w : World) (x : Str) (t : Tok) : (mixKind prog w).is (.inr x) (.str x t) = true := keyIs_str x t
end L2
namespace L2
open PySem PySem.Spec PyProof.Rows
inductive V where
  | non | bl (b : Bool) | int (i : Int) | str (x : Str) | byt (b : Array UInt8) | flt (b : UInt64) | ref (a : Addr) | ty (n : String)
  deriving DecidableEq
def RelV : V → Value → Prop
  | .non, u => u = Value.none
  | .bl b, u => u = Value.bool b
  | .int i, u => ∃ t, u = Value.int i t
  | .str x, u => ∃ t, u = Value.str x t
  | .byt b, u => ∃ t, u = Value.bytes b t
  | .flt b, u => ∃ t, u = Value.float b t
  | .ref a, u => u = Value.ref a
  | .ty n, u => u = Value.type n
abbrev Vals : List V → List Value → Prop := Paired RelV
theorem Vals.length {xs : List V} {us : List Value} (r : Vals xs us) : xs.length = us.length := Paired.length r
theorem Vals.get : ∀ {xs : List V} {us : List Value} {i : Nat} {x : V}, Vals xs us → xs[i]? = some x → ∃ u, us[i]? = some u ∧ RelV x u
  | _, _, _, _, .nil, e => by simp at e
  | _, _, 0, _, .cons r _, e => by simp at e; subst e; exact ⟨_, rfl, r⟩
  | _, _, i + 1, x, .cons _ t, e => by
    obtain ⟨u, h1, h2⟩ := Vals.get (i := i) (x := x) t (by simpa using e)
    exact ⟨u, by simpa using h1, h2⟩
theorem Vals.set {x : V} {u : Value} (r : RelV x u) : ∀ {xs : List V} {us : List Value} (i : Nat), Vals xs us → Vals (xs.set i x) (us.set i u)
  | _, _, _, .nil => .nil
  | _, _, 0, .cons _ t => .cons r t
  | _, _, i + 1, .cons q t => .cons q (Vals.set r i t)
theorem Vals.append : ∀ {xs ys : List V} {us ws : List Value}, Vals xs us → Vals ys ws → Vals (xs ++ ys) (us ++ ws)
  | _, _, _, _, .nil, s => s
  | _, _, _, _, .cons r t, s => .cons r (Vals.append t s)
theorem Vals.take : ∀ {xs : List V} {us : List Value} (n : Nat), Vals xs us → Vals (xs.take n) (us.take n)
  | _, _, 0, _ => .nil
  | _, _, _ + 1, .nil => .nil
  | _, _, n + 1, .cons r t => .cons r (Vals.take n t)
theorem Vals.drop : ∀ {xs : List V} {us : List Value} (n : Nat), Vals xs us → Vals (xs.drop n) (us.drop n)
  | _, _, 0, r => r
  | _, _, _ + 1, .nil => .nil
  | _, _, n + 1, .cons _ t => Vals.drop n t
def RelO : Option V → Option Value → Prop
  | some v, some u => RelV v u
  | none, none => True
  | _, _ => False
def KV {κ : Type} : List (κ × V) → List (κ × Value) → Prop := Paired fun (p : κ × V) (q : κ × Value) => p.1 = q.1 ∧ RelV p.2 q.2
def kV : Key → V
  | .inl i => .int i
  | .inr x => .str x
inductive HO where
  /-- a list -/
  | lst (xs : List V)
  /-- a tuple (never changes) -/
  | tup (xs : List V)
  /-- a dict whose keys are ints and texts; one whose keys are tuples of ints and texts (the empty one is both) -/
  | dK (kvs : List (Key × V)) | dT (kvs : List (List Key × V))
  /-- a set of ints: its members, its size -/
  | set (S : Int → Bool) (n : Nat)
  /-- an instance of the class at C, its dict at dx, its attributes -/
  | ins (C dx : Addr) (fs : List (Str × V))
  /-- the dict of the instance at x -/
  | own (x : Addr)
  /-- the dict of an exception -/
  | xd (fs : List (Str × V))
  /-- a bound method, f of x -/
  | met (f x : Addr)
  /-- a range object lo, lo + 1, .. below hi -/
  | rng (lo hi : Int)
  /-- a thing that is known to the object (the script; a dict while a loop walks it): read, never written while it is so -/
  | frz (o : Obj) (u : HO)
  /-- a code object's table -/
  | tbl (ps : Array Value)
  /-- any other thing, by what is true of its one object (a def of one's own: SetO a S n := HO.ext fun h => ..) -/
  | ext (φ : Heap → Prop)
abbrev Hp := Addr → Option HO
def upd (H : Hp) (a : Addr) (o : HO) : Hp := fun b => if b = a then some o else H b
theorem upd_same {H : Hp} {a : Addr} {o : HO} : upd H a o a = some o := by unfold upd; rw [if_pos rfl]
theorem upd_ne {H : Hp} {a b : Addr} {o : HO} (h : b ≠ a) : upd H a o b = H b := by unfold upd; rw [if_neg h]
theorem upd_upd {H : Hp} {a : Addr} {o u : HO} : upd (upd H a o) a u = upd H a u := by
  funext b; unfold upd; split <;> rfl
theorem ne_of {H : Hp} {a b : Addr} {o u : HO} (h : H a = some o) (h' : H b = some u) (d : o ≠ u) : a ≠ b := by
  intro e; subst e; rw [h] at h'; exact d (Option.some.inj h')
theorem ne_of_none {H : Hp} {a b : Addr} {o : HO} (h : H a = some o) (h' : H b = none) : a ≠ b := by
  intro e; subst e; rw [h] at h'; cases h'
section
variable (P : Program) (w : World)
def ObjOk (H : Hp) (h : Heap) (a : Addr) : HO → Prop
  | .lst xs => xs.length ≤ sizeLine ∧ ∃ (its : List Value) (n : Nat), Vals xs its ∧ h.get? a = some { cls := .type "list", data := .seq its.toArray n }
  | .tup xs => xs.length ≤ sizeLine ∧ ∃ its : List Value, Vals xs its ∧ IsTup h a its.toArray
  | .dK kvs => kvs.length ≤ sizeLine ∧ (a == sysModules) = false ∧ ∃ vs, KV kvs vs ∧ h.DictOf (mixKind P w) a vs
  | .dT kvs => kvs.length ≤ sizeLine ∧ (a == sysModules) = false ∧ ∃ xs : List (List Key × Addr × Value),
      Paired (fun (p : List Key × V) (q : List Key × Addr × Value) => p.1 = q.1 ∧ H q.2.1 = some (.tup (p.1.map kV)) ∧ RelV p.2 q.2.2) kvs xs ∧
      ∃ o es ep, h.get? a = some o ∧ o.ExactDict ∧ o.data = .dict es ep ∧ es.toList = xs.map (entryOfKey (tupleKind (mixKind P w))) ∧ (xs.map (·.1)).Nodup
  | .set S n => h.SetOf (intKind P w) a S n
  | .ins C dx fs => H dx = some (.own a) ∧ fs.length ≤ 1000 ∧ dx ≠ a ∧ h.get? a = some (PySem.W.instObj C dx) ∧
      ∃ mA, h.Ns1 dx mA ∧ (∀ f, RelO (fs.lookup f) (mA f)) ∧ PySem.Within mA (fs.map (·.1))
  | .own _ => ∃ o, h.get? a = some o
  | .xd fs => ∃ mA, h.Ns1 a mA ∧ ∀ f, RelO (fs.lookup f) (mA f)
  | .rng lo hi => ∃ t u v, h.get? a = some { cls := .type "range", data := .fields #[.int lo t, .int hi u, .int 1 v] }
  | .frz o u => h.get? a = some o ∧ ObjOk H h a u
  | .tbl ps => h.get? a = some { cls := .none, data := .fields ps }
  | .met f x => h.get? a = some (PySem.W.methodObj (.ref f) (.ref x))
  | .ext φ => φ h ∧ (∃ o, h.get? a = some o) ∧ ∀ h1 h2 : Heap, φ h1 → (∀ o, h1.get? a = some o → h2.get? a = some o) → φ h2
def HOk (H : Hp) (h : Heap) : Prop := ∀ a o, H a = some o → ObjOk P w H h a o
end
section
variable {P : Program} {w : World} {H H' : Hp} {h h' : Heap} {a : Addr} {o : HO}
theorem ObjOk.lt (x : ObjOk P w H h a o) : a < h.objs.size := by
  cases o with
  | lst xs => obtain ⟨_, _, _, _, e⟩ := x; exact Heap.lt_size e
  | tup xs => obtain ⟨_, _, _, p⟩ := x; exact p.lt
  | dK kvs => obtain ⟨_, _, _, _, o, _, _, e, _⟩ := x; exact Heap.lt_size e
  | dT kvs => obtain ⟨_, _, _, _, o, _, _, e, _⟩ := x; exact Heap.lt_size e
  | set S n => obtain ⟨o, _, _, _, e, _⟩ := x; exact Heap.lt_size e
  | ins C dx fs => obtain ⟨_, _, _, e, _⟩ := x; exact Heap.lt_size e
  | own y => obtain ⟨_, e⟩ := x; exact Heap.lt_size e
  | xd fs => obtain ⟨_, ⟨_, _, _, e, _⟩, _⟩ := x; exact Heap.lt_size e
  | rng lo hi => obtain ⟨_, _, _, e⟩ := x; exact Heap.lt_size e
  | frz ob u => obtain ⟨e, _⟩ := x; exact Heap.lt_size e
  | tbl ps => exact Heap.lt_size (show h.get? a = some _ from x)
  | met f y => exact Heap.lt_size (show h.get? a = some _ from x)
  | ext φ => obtain ⟨_, ⟨_, e⟩, _⟩ := x; exact Heap.lt_size e
theorem Paired.mapP {α β : Type} {F G : α → β → Prop} : ∀ {l₁ : List α} {l₂ : List β}, Paired F l₁ l₂ → (∀ a b, F a b → G a b) → Paired G l₁ l₂
  | _, _, .nil, _ => .nil
  | _, _, .cons r t, f => .cons (f _ _ r) (Paired.mapP t f)
theorem ObjOk.stay (x : ObjOk P w H h a o) (k : ∀ b u, (b = a ∨ H b = some (.own a)) → h.get? b = some u → h'.get? b = some u)
    (ho : ∀ b, H b = some (.own a) → H' b = some (.own a)) (ht : ∀ b xs, H b = some (.tup xs) → H' b = some (.tup xs)) : ObjOk P w H' h' a o := by
  induction o with
  | lst xs => obtain ⟨z, its, n, r, e⟩ := x; exact ⟨z, its, n, r, k _ _ (.inl rfl) e⟩
  | tup xs => obtain ⟨z, its, r, ob, e, c⟩ := x; exact ⟨z, its, r, ob, k _ _ (.inl rfl) e, c⟩
  | dK kvs => obtain ⟨z, y, vs, r, ob, es, ep, e, c⟩ := x; exact ⟨z, y, vs, r, ob, es, ep, k _ _ (.inl rfl) e, c⟩
  | dT kvs =>
    obtain ⟨z, y, xs, r, ob, es, ep, e, c⟩ := x
    exact ⟨z, y, xs, Paired.mapP r fun p q z => ⟨z.1, ht _ _ z.2.1, z.2.2⟩, ob, es, ep, k _ _ (.inl rfl) e, c⟩
  | set S n => obtain ⟨ob, es, ep, t, e, c⟩ := x; exact ⟨ob, es, ep, t, k _ _ (.inl rfl) e, c⟩
  | ins C dx fs =>
    obtain ⟨d, z, ne, e, mA, ⟨od, es, ep, e2, c⟩, r⟩ := x
    exact ⟨ho _ d, z, ne, k _ _ (.inl rfl) e, mA, ⟨od, es, ep, k _ _ (.inr d) e2, c⟩, r⟩
  | own y => obtain ⟨ob, e⟩ := x; exact ⟨ob, k _ _ (.inl rfl) e⟩
  | xd fs => obtain ⟨mA, ⟨od, es, ep, e, c⟩, r⟩ := x; exact ⟨mA, ⟨od, es, ep, k _ _ (.inl rfl) e, c⟩, r⟩
  | rng lo hi => obtain ⟨t, u, v, e⟩ := x; exact ⟨t, u, v, k _ _ (.inl rfl) e⟩
  | frz ob u ih => obtain ⟨e, q⟩ := x; exact ⟨k _ _ (.inl rfl) e, ih q⟩
  | tbl ps =>
    have e : h.get? a = some { cls := .none, data := .fields ps } := x
    show h'.get? a = some { cls := .none, data := .fields ps }
    exact k a _ (.inl rfl) e
  | met f y =>
    have e : h.get? a = some (PySem.W.methodObj (.ref f) (.ref y)) := x
    show h'.get? a = some (PySem.W.methodObj (.ref f) (.ref y))
    exact k a _ (.inl rfl) e
  | ext φ => obtain ⟨p, ⟨o, e⟩, st⟩ := x; exact ⟨st _ _ p fun o q => k _ _ (.inl rfl) q, ⟨o, k _ _ (.inl rfl) e⟩, st⟩
theorem HOk.lt (x : HOk P w H h) (e : H a = some o) : a < h.objs.size := (x a o e).lt
theorem HOk.fresh (x : HOk P w H h) (e : h.objs.size ≤ a) : H a = none := by
  cases q : H a with
  | none => rfl
  | some u => exact absurd (Nat.lt_of_lt_of_le (x.lt q) e) (Nat.lt_irrefl _)
theorem HOk.kept (x : HOk P w H h) (k : ∀ b u, h.get? b = some u → h'.get? b = some u) : HOk P w H h' := fun a o e =>
  (x a o e).stay (fun b u _ q => k b u q) (fun _ q => q) fun _ _ q => q
theorem HOk.laid (x : HOk P w H h) (k : ∀ b u, h.get? b = some u → h'.get? b = some u) (hp : h.objs.size ≤ a) (new : ObjOk P w (upd H a o) h' a o) : HOk P w (upd H a o) h' := fun b u e => by
  have hn := x.fresh hp
  by_cases hb : b = a
  · subst hb; rw [upd_same] at e; cases e; exact new
  · rw [upd_ne hb] at e
    exact (x b u e).stay (fun c v _ q => k c v q) (fun c q => by rw [upd_ne (ne_of_none q hn)]; exact q) fun c xs q => by rw [upd_ne (ne_of_none q hn)]; exact q
end
def Rd (H : Hp) (a : Addr) (u : HO) : Prop := H a = some u ∨ ∃ o, H a = some (.frz o u)
theorem Rd.ok {P : Program} {w : World} {H : Hp} {h : Heap} {a : Addr} {u : HO} (r : Rd H a u) (x : HOk P w H h) : ObjOk P w H h a u := by
  rcases r with r | ⟨o, r⟩
  · exact x a u r
  · obtain ⟨_, q⟩ := x a _ r
    exact q
def Mut : Option HO → Prop
  | some (.lst _) => True
  | some (.dK _) => True
  | some (.dT _) => True
  | some (.set _ _) => True
  | some (.ins _ _ _) => True
  | some (.ext _) => True
  | _ => False
section
variable {P : Program} {w : World} {H : Hp} {h h' : Heap} {x e : Addr} {o' : HO}
theorem HOk.write (ok : HOk P w H h) (mu : Mut (H x)) (he : e = x ∨ H e = some (.own x)) (k : ∀ b u, b ≠ e → h.get? b = some u → h'.get? b = some u) (heo : ∃ u, h'.get? e = some u)
    (new : ObjOk P w (upd H x o') h' x o') : HOk P w (upd H x o') h' := fun b u q => by
  have nown : ∀ c y, H c = some (.own y) → c ≠ x := fun c y r z => by subst z; rw [r] at mu; exact mu
  have ntup : ∀ c xs, H c = some (.tup xs) → c ≠ x := fun c xs r z => by subst z; rw [r] at mu; exact mu
  by_cases hb : b = x
  · subst hb; rw [upd_same] at q; cases q; exact new
  · rw [upd_ne hb] at q
    by_cases hbe : b = e
    · have q' : H b = some (.own x) := by
        rcases he with z | z
        · exact absurd (hbe.trans z) hb
        · rw [hbe]; exact z
      rw [q] at q'; cases q'
      obtain ⟨v, hv⟩ := heo
      exact ⟨v, by rw [hbe]; exact hv⟩
    · refine (ok b u q).stay (fun c v hc r => k c v ?_ r) (fun c r => by rw [upd_ne (nown c b r)]; exact r) fun c xs r => by rw [upd_ne (ntup c xs r)]; exact r
      rcases hc with rfl | hc
      · exact hbe
      · rintro rfl
        rcases he with z | z
        · exact nown c b hc z
        · rw [hc] at z; cases z; exact hb rfl
end
structure Un (fs ex : List Addr) (H H' : Hp) (h h' : Heap) : Prop where
  keep : ∀ b o, h.get? b = some o → H b = none → b ∉ fs → b ∉ ex → h'.get? b = some o
  slot : ∀ b o, h.get? b = some o → H b = none → b ∈ fs → b ∉ ex → ∃ sl, h'.get? b = some { o with slots := sl }
  free : ∀ b o, h.get? b = some o → H b = none → b ∉ ex → H' b = none
  there : ∀ b o, h.get? b = some o → b ∉ ex → ∃ o', h'.get? b = some o'
  tups : ∀ b xs, H b = some (.tup xs) → H' b = some (.tup xs)
  frzs : ∀ b o u, H b = some (.frz o u) → H' b = some (.frz o u)
  tbls : ∀ b ps, H b = some (.tbl ps) → ∃ more, H' b = some (.tbl (ps ++ more))
section
variable {fs fs' ex ex' : List Addr} {H H1 H2 : Hp} {h h1 h2 h' : Heap} {a x e : Addr} {o : HO}
theorem Un.any (u : Un fs ex H H1 h h1) {b : Addr} {ob : Obj} (q : h.get? b = some ob) (n : H b = none) (hx : b ∉ ex) : ∃ sl, h1.get? b = some { ob with slots := sl } := by
  by_cases hb : b ∈ fs
  · exact u.slot b ob q n hb hx
  · exact ⟨ob.slots, u.keep b ob q n hb hx⟩
theorem Un.kept (k : ∀ b u, h.get? b = some u → h'.get? b = some u) : Un fs ex H H h h' :=
  ⟨fun b ob q _ _ _ => k b ob q, fun b ob q _ _ _ => ⟨ob.slots, k b ob q⟩, fun _ _ _ n _ => n, fun b ob q _ => ⟨ob, k b ob q⟩, fun _ _ q => q, fun _ _ _ q => q, fun _ ps q => ⟨#[], by rw [q]; simp⟩⟩
theorem Un.refl : Un fs ex H H h h := Un.kept fun _ _ q => q
theorem Un.laid (k : ∀ b u, h.get? b = some u → h'.get? b = some u) (hp : h.objs.size ≤ a) (hn : H a = none) : Un fs ex H (upd H a o) h h' where
  keep := fun b u q _ _ _ => k b u q
  slot := fun b u q _ _ _ => ⟨u.slots, k b u q⟩
  free := fun b u q n _ => by rw [upd_ne (Nat.ne_of_lt (Nat.lt_of_lt_of_le (Heap.lt_size q) hp))]; exact n
  there := fun b u q _ => ⟨u, k b u q⟩
  tups := fun b xs q => by rw [upd_ne (ne_of_none q hn)]; exact q
  frzs := fun b u xs q => by rw [upd_ne (ne_of_none q hn)]; exact q
  tbls := fun b ps q => ⟨#[], by rw [upd_ne (ne_of_none q hn), q]; simp⟩
theorem Un.write (mu : Mut (H x)) (he : e = x ∨ H e = some (.own x)) (k : ∀ b u, b ≠ e → h.get? b = some u → h'.get? b = some u) (heo : ∃ u, h'.get? e = some u) : Un fs ex H (upd H x o) h h' := by
  have hx : ∀ b, H b = none → b ≠ x := fun b n z => by subst z; rw [n] at mu; exact mu
  have hb : ∀ b, H b = none → b ≠ e := fun b n z => by
    subst z
    rcases he with r | r
    · exact hx b n r
    · rw [n] at r; cases r
  have hm : ∀ b u, H b = some u → ¬ Mut (some u) → b ≠ x := fun b u q nm z => by subst z; rw [q] at mu; exact nm mu
  refine ⟨fun b u q n _ _ => k b u (hb b n) q, fun b u q n _ _ => ⟨u.slots, k b u (hb b n) q⟩, fun b u q n _ => by rw [upd_ne (hx b n)]; exact n, fun b u q _ => ?_,
    fun b xs q => by rw [upd_ne (hm b _ q fun z => z)]; exact q, fun b u xs q => by rw [upd_ne (hm b _ q fun z => z)]; exact q, fun b ps q => ⟨#[], by rw [upd_ne (hm b _ q fun z => z), q]; simp⟩⟩
  by_cases hbe : b = e
  · subst hbe; exact heo
  · exact ⟨u, k b u hbe q⟩
end
def trk (h : Heap) (H : Hp) : List Addr := (List.range h.objs.size).filter fun a => (H a).isSome
def hidT (h : Heap) (H : Hp) : Heap := PySem.W.hideAll h (trk h H)
theorem hidT_size (h : Heap) (H : Hp) : (hidT h H).objs.size = h.objs.size := PySem.W.hideAll_size _ _
theorem hidT_get {h : Heap} {H : Hp} {b : Addr} {o : Obj} (e : h.get? b = some o) (n : H b = none) : (hidT h H).get? b = some o :=
  PySem.W.hideAll_get _ e fun hm => by
    have q : (H b).isSome = true := (List.mem_filter.mp hm).2
    rw [n] at q; simp at q
theorem of_hidT {h : Heap} {H : Hp} {b : Addr} {o : Obj} (e : (hidT h H).get? b = some o) : h.get? b = some o ∧ H b = none := by
  have e' : h.get? b = some o := PySem.W.of_hideAll (trk h H) e
  refine ⟨e', ?_⟩
  cases q : H b with
  | none => rfl
  | some x =>
    have hm : b ∈ trk h H := List.mem_filter.mpr ⟨List.mem_range.mpr (Heap.lt_size e'), by simp [q]⟩
    have z : (hidT h H).get? b = none := PySem.W.hideAll_none (trk h H) hm
    rw [z] at e; cases e
def allNews (g h : Heap) (L : Addr) : List (Addr × Obj) := (List.range h.objs.size).filterMap fun a => if a = L ∨ (g.get? a).isSome = true then none else (h.get? a).map fun o => (a, o)
def rest (g h : Heap) (L d : Addr) : List (Addr × Obj) := (allNews g h L).filter fun p => decide (p.1 ≠ d)
end L2
namespace L2
open PySem PySem.Spec PyProof.Rows
structure Mod (K : PySem.W.Frag) (mg : Str → Option Value) (base : Heap) : Prop where
  kin : K.In base
  glob : base.Ns mainGlobals mg
  blt : ∃ mb, base.Ns builtinsNs mb ∧ ∀ x : Str, x ≠ "__name__" → mb x = bootBuiltins x
  nolimit : base.NoLimit
structure Cx where
  prog : Program
  w : World
  K : PySem.W.Frag
  mg : Str → Option Value
  base : Heap
  A : Around
  N : List Str
  s₀ : Shared
  H₀ : Hp
  env : Env
  outer : List Env
  stack : List Env
  ex : List Addr
  fn : Str → Bool
  calm : Bool
  pn : List (Addr × Obj)
  xe : Value → Shared → Prop
def frs (l : List Env) : List Addr := l.filterMap (·.frame)
abbrev Cx.fs (X : Cx) : List Addr := frs X.outer
def Vis (sc : Scope) (x : Str) : Prop := sc.names.lookup x = some .local ∨ sc.names.lookup x = some .cell ∨ sc.names.lookup x = some .free
def Loc (sc : Scope) (x : Str) : Prop := sc.names.lookup x = some .local ∨ sc.names.lookup x = some .cell
def Look (env : Env) (h : Heap) (m : Str → Option Value) (x : Str) (u : Value) : Prop :=
  (env.kindOf x = some .local ∧ m x = some u) ∨ ((env.kindOf x = some .cell ∨ env.kindOf x = some .free) ∧ ∃ c, env.cells.lookup x = some c ∧ h.IsCell c (some u))
structure Cx.Ok (X : Cx) : Prop where
  mod : Mod X.K X.mg X.base
  kind : X.env.scope.kind = .function
  glob : X.env.globals = mainGlobals
  blt : X.env.builtins = builtinsNs
  above : X.s₀.heap.objs.size ≤ X.env.locals
  inj : ∀ x y c, X.env.cells.lookup x = some c → X.env.cells.lookup y = some c → x = y
  has : ∀ x, (X.env.kindOf x = some .cell ∨ X.env.kindOf x = some .free) → ∃ c, X.env.cells.lookup x = some c
  cab : ∀ x c, X.fn x = true → X.env.cells.lookup x = some c → X.s₀.heap.objs.size ≤ c
  hd : X.calm = true → X.A.handled = none
  frames : X.A.frames = some X.stack
  stk : X.stack = X.outer ∨ (X.stack = X.env :: X.outer ∧ X.env.frame = some X.env.locals)
  exf : ∀ b ∈ X.ex, b ≠ X.env.locals ∧ ∀ x c, X.env.cells.lookup x = some c → c ≠ b
  bs : ∀ b o, X.base.get? b = some o → X.s₀.heap.get? b = some o ∧ X.H₀ b = none
  bsz : X.base.objs.size ≤ X.s₀.heap.objs.size
  noex : ∀ b o, X.base.get? b = some o → b ∉ X.ex
  exfs : ∀ b ∈ X.ex, b ∉ X.fs
  funs : X.s₀.heap.FunFrames X.base X.outer
  frf : ∀ b ∈ X.fs, X.H₀ b = none
structure Inv (X : Cx) (pins : List (Addr × Obj)) (σ : List (Option V)) (H : Hp) (s : Shared) : Prop where
  ok : X.Ok
  os : s.os = X.s₀.os
  bare : AllBare s.gens
  base : Un X.fs X.ex X.H₀ H X.s₀.heap s.heap
  loc : ∃ m, s.heap.Ns X.env.locals m ∧ ∀ (i : Nat) (x : Str) (v : V), X.N[i]? = some x → σ[i]? = some (some v) → Vis X.env.scope x → ∃ u, RelV v u ∧ Look X.env s.heap m x u
  cell : ∀ x c, X.env.cells.lookup x = some c → ∃ v, s.heap.IsCell c v
  free : H X.env.locals = none
  freeC : ∀ x c, X.env.cells.lookup x = some c → H c = none
  pin : ∀ p ∈ X.pn ++ pins, s.heap.get? p.1 = some p.2 ∧ H p.1 = none ∧ p.1 ≠ X.env.locals ∧ p.1 ∉ X.fs ∧ ∀ v, p.2.data ≠ .cell v
  hok : HOk X.prog X.w H s.heap
  len : σ.length = X.N.length
section
variable {X : Cx} {pins : List (Addr × Obj)} {σ : List (Option V)} {H H' : Hp} {s : Shared} {h' : Heap}
theorem Cx.Ok.nofr (ok : X.Ok) {b : Addr} {o : Obj} (e : X.base.get? b = some o) : b ∉ X.fs := fun hb => by
  have := (ok.funs.mem hb).1
  rw [e] at this; cases this
theorem Inv.bs (I : Inv X pins σ H s) : ∀ b o, X.base.get? b = some o → s.heap.get? b = some o ∧ H b = none := fun b o e =>
  ⟨I.base.keep b o (I.ok.bs b o e).1 (I.ok.bs b o e).2 (I.ok.nofr e) (I.ok.noex b o e), I.base.free b o (I.ok.bs b o e).1 (I.ok.bs b o e).2 (I.ok.noex b o e)⟩
theorem Inv.bk (I : Inv X pins σ H s) : ∀ b o, X.base.get? b = some o → s.heap.get? b = some o := fun b o e => (I.bs b o e).1
theorem Inv.mod (I : Inv X pins σ H s) : Mod X.K X.mg X.base := I.ok.mod
theorem Inv.kIn (I : Inv X pins σ H s) : X.K.In s.heap := I.ok.mod.kin.keeps I.bk
theorem Inv.lt (I : Inv X pins σ H s) : X.env.locals < s.heap.objs.size := let ⟨_, hn, _⟩ := I.loc; hn.lt
theorem Inv.sz (I : Inv X pins σ H s) : X.s₀.heap.objs.size ≤ s.heap.objs.size := Nat.le_trans I.ok.above (Nat.le_of_lt I.lt)
theorem Inv.nofs (I : Inv X pins σ H s) {a : Addr} (h : s.heap.objs.size ≤ a) : a ∉ X.fs := fun hb => by
  obtain ⟨_, o, ho, _⟩ := I.ok.funs.mem hb
  exact absurd (Nat.lt_of_lt_of_le (Heap.lt_size ho) (Nat.le_trans I.sz h)) (Nat.lt_irrefl _)
theorem Inv.cne (I : Inv X pins σ H s) : ∀ x c, X.env.cells.lookup x = some c → c ≠ X.env.locals := fun x c e z => by
  obtain ⟨v, o, ho, hd⟩ := I.cell x c e
  obtain ⟨m, ⟨o', es, ep, ho', hd', _⟩, _⟩ := I.loc
  rw [z, ho'] at ho; cases ho; rw [hd'] at hd; cases hd
theorem Inv.funs (I : Inv X pins σ H s) : s.heap.FunFrames X.base X.outer := by
  have all : ∀ (l : List Env), (∀ b ∈ frs l, b ∈ X.fs) → X.s₀.heap.FunFrames X.base l → s.heap.FunFrames X.base l := by
    intro l
    induction l with
    | nil => intro _ _; trivial
    | cons env r ih =>
      intro hs hl
      obtain ⟨hk, ⟨L, o, hf, hn, ho, hd⟩, hr⟩ := hl
      have hL : L ∈ X.fs := hs L (by unfold frs; rw [List.filterMap_cons, hf]; exact List.mem_cons_self)
      obtain ⟨sl, e⟩ := I.base.slot L o ho (I.ok.frf L hL) hL fun z => I.ok.exfs L z hL
      exact ⟨hk, ⟨L, _, hf, hn, e, hd⟩, ih (fun b hb => hs b (by unfold frs; rw [List.filterMap_cons, hf]; exact List.mem_cons_of_mem _ hb)) hr⟩
  exact all X.outer (fun _ hb => hb) I.ok.funs
theorem Inv.stack (I : Inv X pins σ H s) : s.heap.FunFrames X.base X.stack := by
  rcases I.ok.stk with e | ⟨e, hf⟩
  · rw [e]; exact I.funs
  · rw [e]
    obtain ⟨m, hn, _⟩ := I.loc
    refine .cons (by rw [I.ok.kind]; decide) hf hn ?_ I.funs
    exact Heap.get?_none_of_le (Nat.le_trans I.ok.bsz I.ok.above)
theorem Inv.stkSub (I : Inv X pins σ H s) : ∀ b ∈ frs X.stack, b ∈ X.env.locals :: X.fs := fun b hb => by
  rcases I.ok.stk with e | ⟨e, hf⟩
  · rw [e] at hb; exact List.mem_cons_of_mem _ hb
  · rw [e] at hb
    unfold frs at hb
    rw [List.filterMap_cons, hf] at hb
    exact hb
theorem Inv.stkFree (I : Inv X pins σ H s) : ∀ b ∈ frs X.stack, H b = none := fun b hb => by
  rcases List.mem_cons.mp (I.stkSub b hb) with e | hb
  · rw [e]; exact I.free
  · obtain ⟨_, o, ho, _⟩ := I.ok.funs.mem hb
    exact I.base.free b o ho (I.ok.frf b hb) fun z => I.ok.exfs b z hb
theorem Inv.step {g' : Array GenState} {t' : Nat} {d' : Drawn} {ch : List Addr} (I : Inv X pins σ H s)
    (hch : ∀ b ∈ ch, (b ∈ X.ex ∨ X.s₀.heap.objs.size ≤ b) ∧ b ≠ X.env.locals ∧ (∀ x c, X.env.cells.lookup x = some c → c ≠ b) ∧ ∀ p ∈ X.pn ++ pins, p.1 ≠ b)
    (keep : ∀ b o, b ≠ X.env.locals → b ∉ X.fs → b ∉ ch → s.heap.get? b = some o → H b = none → h'.get? b = some o)
    (slot : ∀ b o, b ≠ X.env.locals → b ∈ X.fs → b ∉ ch → s.heap.get? b = some o → H b = none → ∃ sl, h'.get? b = some { o with slots := sl }) (free : ∀ b o, b ∉ ch → s.heap.get? b = some o → H b = none → H' b = none)
    (there : ∀ b o, b ∉ ch → s.heap.get? b = some o → ∃ o', h'.get? b = some o')
    (tups : ∀ b xs, H b = some (.tup xs) → H' b = some (.tup xs)) (frzs : ∀ b o u, H b = some (.frz o u) → H' b = some (.frz o u)) (tbls : ∀ b ps, H b = some (.tbl ps) → ∃ more, H' b = some (.tbl (ps ++ more)))
    (ns : ∀ m, s.heap.Ns X.env.locals m → h'.Ns X.env.locals m) (hok : HOk X.prog X.w H' h') (hg : AllBare g') :
    Inv X pins σ H' { s with heap := h', gens := g', drawn := d', toks := t' } := by
  have neL : ∀ b o, X.s₀.heap.get? b = some o → b ≠ X.env.locals := fun b o e => Nat.ne_of_lt (Nat.lt_of_lt_of_le (Heap.lt_size e) I.ok.above)
  have neC : ∀ b o, X.s₀.heap.get? b = some o → b ∉ X.ex → b ∉ ch := fun b o e hx hb => by
    rcases (hch b hb).1 with z | z
    · exact hx z
    · exact absurd (Nat.lt_of_lt_of_le (Heap.lt_size e) z) (Nat.lt_irrefl _)
  have cellK : ∀ x c, X.env.cells.lookup x = some c → ∀ v, s.heap.IsCell c v → h'.IsCell c v := fun x c e v ⟨o, ho, hd⟩ => by
    have nch : c ∉ ch := fun z => (hch c z).2.2.1 x c e rfl
    by_cases hc : c ∈ X.fs
    · obtain ⟨sl, q⟩ := slot c o (I.cne x c e) hc nch ho (I.freeC x c e)
      exact ⟨_, q, hd⟩
    · exact ⟨o, keep c o (I.cne x c e) hc nch ho (I.freeC x c e), hd⟩
  refine ⟨I.ok, I.os, hg, ⟨fun b o e n hb hx => ?_, fun b o e n hb hx => ?_, fun b o e n hx => ?_, fun b o e hx => ?_, fun b xs e => tups b xs (I.base.tups b xs e), fun b o xs e => frzs b o xs (I.base.frzs b o xs e), fun b ps e => ?_⟩, ?_, fun x c e => ?_, ?_, fun x c e => ?_, fun p hp => ?_, hok, I.len⟩
  · exact keep b o (neL b o e) hb (neC b o e hx) (I.base.keep b o e n hb hx) (I.base.free b o e n hx)
  · obtain ⟨sl, e1⟩ := I.base.slot b o e n hb hx
    obtain ⟨sl', e2⟩ := slot b _ (neL b o e) hb (neC b o e hx) e1 (I.base.free b o e n hx)
    exact ⟨sl', e2⟩
  · obtain ⟨o', e1⟩ := I.base.there b o e hx
    exact free b o' (neC b o e hx) e1 (I.base.free b o e n hx)
  · obtain ⟨o', e1⟩ := I.base.there b o e hx
    exact there b o' (neC b o e hx) e1
  · obtain ⟨m1, e1⟩ := I.base.tbls b ps e
    obtain ⟨m2, e2⟩ := tbls b _ e1
    exact ⟨m1 ++ m2, by rw [e2, Array.append_assoc]⟩
  · obtain ⟨m, hn, hl⟩ := I.loc
    refine ⟨m, ns m hn, fun i x v e1 e2 e3 => ?_⟩
    obtain ⟨u, r, l⟩ := hl i x v e1 e2 e3
    refine ⟨u, r, ?_⟩
    rcases l with l | ⟨k, c, e, z⟩
    · exact .inl l
    · exact .inr ⟨k, c, e, cellK x c e _ z⟩
  · obtain ⟨v, z⟩ := I.cell x c e
    exact ⟨v, cellK x c e v z⟩
  · obtain ⟨m, ⟨o, _, _, ho, _⟩, _⟩ := I.loc
    exact free _ o (fun z => (hch _ z).2.1 rfl) ho I.free
  · obtain ⟨v, o, ho, hd⟩ := I.cell x c e
    exact free c o (fun z => (hch c z).2.2.1 x c e rfl) ho (I.freeC x c e)
  · obtain ⟨e, n, ne, nf, d⟩ := I.pin p hp
    have nch : p.1 ∉ ch := fun z => (hch p.1 z).2.2.2 p hp rfl
    exact ⟨keep p.1 p.2 ne nf nch e n, free p.1 p.2 nch e n, ne, nf, d⟩
theorem Inv.un {t' : Nat} (I : Inv X pins σ H s) (u : Un X.fs [] H H' s.heap h') (hok : HOk X.prog X.w H' h') : Inv X pins σ H' { s with heap := h', toks := t' } := by
  obtain ⟨m, ⟨o, es, ep, ho, r⟩, _⟩ := id I.loc
  obtain ⟨sl, hL⟩ := u.any ho I.free (by simp)
  exact I.step (g' := s.gens) (d' := s.drawn) (ch := []) (fun _ z => nomatch z) (fun b o _ hb _ e n => u.keep b o e n hb (by simp)) (fun b o _ hb _ e n => u.slot b o e n hb (by simp)) (fun b o _ e n => u.free b o e n (by simp)) (fun b o _ e => u.there b o e (by simp)) u.tups u.frzs u.tbls (fun m' hm => by
    obtain ⟨o', es', ep', ho', r'⟩ := hm
    rw [ho] at ho'; cases ho'
    exact ⟨_, es', ep', hL, r'⟩) hok I.bare
theorem Inv.call {g' : Array GenState} {t' : Nat} {d' : Drawn} {ch : List Addr} (I : Inv X pins σ H s) (u : Un (frs X.stack) ch H H' s.heap h') (hok : HOk X.prog X.w H' h') (hg : AllBare g')
    (hch : ∀ b ∈ ch, (b ∈ X.ex ∨ X.s₀.heap.objs.size ≤ b) ∧ b ≠ X.env.locals ∧ (∀ x c, X.env.cells.lookup x = some c → c ≠ b) ∧ ∀ p ∈ X.pn ++ pins, p.1 ≠ b) :
    Inv X pins σ H' { s with heap := h', gens := g', drawn := d', toks := t' } := by
  obtain ⟨m, ⟨o, es, ep, ho, r⟩, _⟩ := id I.loc
  obtain ⟨sl, hL⟩ := u.any ho I.free fun z => (hch _ z).2.1 rfl
  exact I.step (ch := ch) hch (fun b o hL hb hc e n => u.keep b o e n (fun z => (List.mem_cons.mp (I.stkSub b z)).elim hL hb) hc) (fun b o _ _ hc e n => u.any e n hc) (fun b o hc e n => u.free b o e n hc) (fun b o hc e => u.there b o e hc) u.tups u.frzs u.tbls (fun m' hm => by
    obtain ⟨o', es', ep', ho', r'⟩ := hm
    rw [ho] at ho'; cases ho'
    exact ⟨_, es', ep', hL, r'⟩) hok hg
theorem Inv.turned {t' : Nat} {it : Addr} (I : Inv X pins σ H s) (k : ∀ b o, b ≠ it → s.heap.get? b = some o → h'.get? b = some o) (hn : H it = none) (hL : it ≠ X.env.locals)
    (h1 : it ∈ X.ex ∨ X.s₀.heap.objs.size ≤ it) (h2 : ∀ x c, X.env.cells.lookup x = some c → c ≠ it) (h3 : ∀ p ∈ X.pn ++ pins, p.1 ≠ it) : Inv X pins σ H { s with heap := h', toks := t' } := by
  have nit : ∀ b u, H b = some u → b ≠ it := fun b u e z => by rw [z, hn] at e; cases e
  refine I.step (g' := s.gens) (d' := s.drawn) (ch := [it]) (fun b hb => ?_) (fun b o _ _ hc e _ => k b o (fun z => hc (by simp [z])) e) (fun b o _ _ hc e _ => ⟨o.slots, k b o (fun z => hc (by simp [z])) e⟩) (fun _ _ _ _ n => n)
    (fun b o hc e => ⟨o, k b o (fun z => hc (by simp [z])) e⟩) (fun _ _ e => e) (fun _ _ _ e => e) (fun b ps e => ⟨#[], by rw [e]; simp⟩) (fun m hm => ?_) (fun b u e => ?_) I.bare
  · have e : b = it := by simpa using hb
    subst e
    exact ⟨h1, hL, h2, h3⟩
  · obtain ⟨o, es, ep, ho, r⟩ := hm
    exact ⟨o, es, ep, k _ o (Ne.symm hL) ho, r⟩
  · refine (I.hok b u e).stay (fun c v hc q => k c v ?_ q) (fun _ q => q) fun _ _ q => q
    rcases hc with z | z
    · rw [z]; exact nit b u e
    · exact nit c _ z
theorem Inv.tok (I : Inv X pins σ H s) (t : Nat) : Inv X pins σ H { s with toks := t } := I.un (h' := s.heap) (t' := t) Un.refl I.hok
theorem Inv.kept {t' : Nat} (I : Inv X pins σ H s) (k : ∀ b u, s.heap.get? b = some u → h'.get? b = some u) : Inv X pins σ H { s with heap := h', toks := t' } := I.un (Un.kept k) (I.hok.kept k)
theorem Inv.laid {a : Addr} {o : HO} {t' : Nat} (I : Inv X pins σ H s) (k : ∀ b u, s.heap.get? b = some u → h'.get? b = some u) (hp : s.heap.objs.size ≤ a) (new : ObjOk X.prog X.w (upd H a o) h' a o) :
    Inv X pins σ (upd H a o) { s with heap := h', toks := t' } := I.un (Un.laid k hp (I.hok.fresh hp)) (I.hok.laid k hp new)
theorem Inv.write {x e : Addr} {o : HO} {t' : Nat} (I : Inv X pins σ H s) (mu : Mut (H x)) (he : e = x ∨ H e = some (.own x)) (k : ∀ b u, b ≠ e → s.heap.get? b = some u → h'.get? b = some u) (heo : ∃ u, h'.get? e = some u)
    (new : ObjOk X.prog X.w (upd H x o) h' x o) : Inv X pins σ (upd H x o) { s with heap := h', toks := t' } := I.un (Un.write mu he k heo) (I.hok.write mu he k heo new)
theorem Inv.pins_of {pins' : List (Addr × Obj)} (I : Inv X pins σ H s) (h : ∀ p ∈ pins', s.heap.get? p.1 = some p.2 ∧ H p.1 = none ∧ p.1 ≠ X.env.locals ∧ p.1 ∉ X.fs ∧ ∀ v, p.2.data ≠ .cell v) : Inv X pins' σ H s :=
  ⟨I.ok, I.os, I.bare, I.base, I.loc, I.cell, I.free, I.freeC, fun p hp => (List.mem_append.mp hp).elim (fun z => I.pin p (List.mem_append_left _ z)) (h p), I.hok, I.len⟩
theorem nodup_ix {N : List Str} (hN : N.Nodup) {i j : Nat} {x : Str} (a : N[i]? = some x) (b : N[j]? = some x) : i = j := by
  obtain ⟨h1, e1⟩ := List.getElem?_eq_some_iff.mp a
  obtain ⟨h2, e2⟩ := List.getElem?_eq_some_iff.mp b
  exact (List.getElem_inj hN).mp (e1.trans e2.symm)
theorem store_ok2 {M : Model} {A : Around} {E : Value → Shared → Prop} {i : Nat} {x : Str} {v : V} {u : Value} {Q : Unit → Shared → Prop} (I : Inv X pins σ H s) (hN : X.N.Nodup) (hi : X.N[i]? = some x) (hx : Loc X.env.scope x) (r : RelV v u)
    (h : ∀ s', Inv X pins (σ.set i (some v)) H s' → (∃ a, Heap.SameBut a s.heap s'.heap ∧ (a = X.env.locals ∨ X.env.cells.lookup x = some a)) → Q () s') (hf : X.fn x = true ∨ X.env.scope.names.lookup x = some .local := by first | exact .inl rfl | exact .inr rfl | assumption) : wpAny M A (storeName X.env x u) Q E s := by
  obtain ⟨m, hn, hl⟩ := id I.loc
  have hcls : (X.env.scope.kind == .class || (X.env.scope.kind == .module && X.env.locals != X.env.globals)) = false := by rw [I.ok.kind]; rfl
  have hiσ : i < σ.length := by rw [I.len]; exact (List.getElem?_eq_some_iff.mp hi).1
  have cne := I.cne
  have tracked : ∀ {a : Addr} {h' : Heap}, (∃ o, s.heap.get? a = some o ∧ H a = none) → Heap.SameBut a s.heap h' → HOk X.prog X.w H h' := fun {a h'} ha hs b ob e => by
    obtain ⟨_, _, hfree⟩ := ha
    refine (I.hok b ob e).stay (fun c w' hc q => (hs.2 c ?_).trans q) (fun _ q => q) fun _ _ q => q
    rintro rfl
    rcases hc with rfl | hc
    · rw [hfree] at e; cases e
    · rw [hfree] at hc; cases hc
  rcases hx with hk | hk
  · refine wpAny_storeName_local hk hn (fun h' hn' hs => ?_) hcls
    obtain ⟨oL, _, _, hoL, _⟩ := id hn
    refine h _ ⟨I.ok, I.os, I.bare, ⟨fun b o e n hb hx => ?_, fun b o e n hb hx => ?_, I.base.free, fun b o e hx => ?_, I.base.tups, I.base.frzs, I.base.tbls⟩, ⟨_, hn', fun j y v' e1 e2 e3 => ?_⟩, fun y c e => ?_, I.free, I.freeC, fun p hp => ?_, tracked ⟨oL, hoL, I.free⟩ hs, by simpa using I.len⟩ ⟨_, hs, .inl rfl⟩
    · exact (hs.2 b (Nat.ne_of_lt (Nat.lt_of_lt_of_le (Heap.lt_size e) I.ok.above))).trans (I.base.keep b o e n hb hx)
    · obtain ⟨sl, e1⟩ := I.base.slot b o e n hb hx
      exact ⟨sl, (hs.2 b (Nat.ne_of_lt (Nat.lt_of_lt_of_le (Heap.lt_size e) I.ok.above))).trans e1⟩
    · obtain ⟨o', e1⟩ := I.base.there b o e hx
      exact ⟨o', (hs.2 b (Nat.ne_of_lt (Nat.lt_of_lt_of_le (Heap.lt_size e) I.ok.above))).trans e1⟩
    · by_cases hj : j = i
      · subst hj
        rw [hi] at e1; cases e1
        rw [List.getElem?_set_self hiσ] at e2
        cases e2
        exact ⟨u, r, .inl ⟨hk, by simp⟩⟩
      · rw [List.getElem?_set_ne (Ne.symm hj)] at e2
        obtain ⟨u', r', q⟩ := hl j y v' e1 e2 e3
        refine ⟨u', r', ?_⟩
        rcases q with ⟨k, e⟩ | ⟨k, c, e, z⟩
        · refine .inl ⟨k, ?_⟩
          have : y ≠ x := fun e => hj (nodup_ix hN e1 (e ▸ hi))
          simp [this, e]
        · exact .inr ⟨k, c, e, z.sameBut hs (cne y c e)⟩
    · obtain ⟨w', z⟩ := I.cell y c e
      exact ⟨w', z.sameBut hs (cne y c e)⟩
    · obtain ⟨e, n, ne, nf, d⟩ := I.pin p hp
      exact ⟨(hs.2 p.1 ne).trans e, n, ne, nf, d⟩
  · have hfn : X.fn x = true := by
      rcases hf with z | z
      · exact z
      · rw [z] at hk; cases hk
    obtain ⟨c, hc⟩ := I.ok.has x (.inl hk)
    obtain ⟨w', z⟩ := I.cell x c hc
    refine wpAny_storeName_cell I.ok.kind hk hc z (fun h' hc' hs => ?_)
    obtain ⟨oc, hoc, hocd⟩ := id z
    refine h { s with heap := h' } ⟨I.ok, I.os, I.bare, ⟨fun b o e n hb hx => ?_, fun b o e n hb hx => ?_, I.base.free, fun b o e hx => ?_, I.base.tups, I.base.frzs, I.base.tbls⟩, ⟨m, hn.sameBut hs (Ne.symm (cne x c hc)), fun j y v' e1 e2 e3 => ?_⟩, fun y c' e => ?_, I.free, I.freeC, fun p hp => ?_, tracked ⟨oc, hoc, I.freeC x c hc⟩ hs, by simpa using I.len⟩ ⟨c, hs, .inr hc⟩
    · exact (hs.2 b (Nat.ne_of_lt (Nat.lt_of_lt_of_le (Heap.lt_size e) (I.ok.cab x c hfn hc)))).trans (I.base.keep b o e n hb hx)
    · obtain ⟨sl, e1⟩ := I.base.slot b o e n hb hx
      exact ⟨sl, (hs.2 b (Nat.ne_of_lt (Nat.lt_of_lt_of_le (Heap.lt_size e) (I.ok.cab x c hfn hc)))).trans e1⟩
    · obtain ⟨o', e1⟩ := I.base.there b o e hx
      exact ⟨o', (hs.2 b (Nat.ne_of_lt (Nat.lt_of_lt_of_le (Heap.lt_size e) (I.ok.cab x c hfn hc)))).trans e1⟩
    · by_cases hj : j = i
      · subst hj
        rw [hi] at e1; cases e1
        rw [List.getElem?_set_self hiσ] at e2
        cases e2
        exact ⟨u, r, .inr ⟨.inl hk, c, hc, hc'⟩⟩
      · rw [List.getElem?_set_ne (Ne.symm hj)] at e2
        obtain ⟨u', r', q⟩ := hl j y v' e1 e2 e3
        refine ⟨u', r', ?_⟩
        rcases q with q | ⟨k, c', e, z'⟩
        · exact .inl q
        · refine .inr ⟨k, c', e, z'.sameBut hs ?_⟩
          rintro rfl
          exact hj (nodup_ix hN e1 (I.ok.inj _ _ _ e hc ▸ hi))
    · by_cases hcc : c' = c
      · subst hcc; exact ⟨_, hc'⟩
      · obtain ⟨w2, z2⟩ := I.cell y c' e
        exact ⟨w2, z2.sameBut hs hcc⟩
    · obtain ⟨e, n, ne, nf, d⟩ := I.pin p hp
      refine ⟨(hs.2 p.1 ?_).trans e, n, ne, nf, d⟩
      intro q
      rw [q, hoc] at e
      have q' : oc = p.2 := Option.some.inj e
      exact d w' (by rw [← q']; exact hocd)
theorem store_ok {M : Model} {A : Around} {E : Value → Shared → Prop} {i : Nat} {x : Str} {v : V} {u : Value} {Q : Unit → Shared → Prop} (I : Inv X pins σ H s) (hN : X.N.Nodup) (hi : X.N[i]? = some x) (hx : Loc X.env.scope x) (r : RelV v u)
    (h : ∀ s', Inv X pins (σ.set i (some v)) H s' → Q () s') (hf : X.fn x = true ∨ X.env.scope.names.lookup x = some .local := by first | exact .inl rfl | exact .inr rfl | assumption) : wpAny M A (storeName X.env x u) Q E s :=
  store_ok2 I hN hi hx r (fun s' I' _ => h s' I') hf
theorem Inv.call' {s' : Shared} {ch : List Addr} (I : Inv X pins σ H s) (ho : s'.os = s.os) (u : Un (frs X.stack) ch H H' s.heap s'.heap) (hok : HOk X.prog X.w H' s'.heap) (hg : AllBare s'.gens)
    (hch : ∀ b ∈ ch, (b ∈ X.ex ∨ X.s₀.heap.objs.size ≤ b) ∧ b ≠ X.env.locals ∧ (∀ x c, X.env.cells.lookup x = some c → c ≠ b) ∧ ∀ p ∈ X.pn ++ pins, p.1 ≠ b) : Inv X pins σ H' s' := by
  obtain ⟨h', g', d', t', o'⟩ := s'
  have e : o' = s.os := ho
  subst e
  exact I.call (g' := g') (t' := t') (d' := d') u hok hg hch
end
abbrev XK := Value → Option Addr → Hp → Prop
abbrev St := List (Option V)
abbrev VK := V → Hp → Prop
abbrev TE := St → Hp → VK → Prop
abbrev TT := St → Hp → (Bool → Hp → Prop) → Prop
abbrev TA := St → Hp → (List V → Hp → Prop) → Prop
structure Ends where
  nx : St → Hp → Prop
  rt : VK
  bk : St → Hp → Prop := fun _ _ => False
  ct : St → Hp → Prop := fun _ _ => False
abbrev TS := Ends → St → Hp → Prop
def EP (X : Cx) (pins : List (Addr × Obj)) (σ : St) (Q : VK) (u : Value) (s' : Shared) : Prop := ∃ v H', Inv X pins σ H' s' ∧ RelV v u ∧ Q v H'
def TP (X : Cx) (pins : List (Addr × Obj)) (σ : St) (Q : Bool → Hp → Prop) (b : Bool) (s' : Shared) : Prop := ∃ H', Inv X pins σ H' s' ∧ Q b H'
def AP (X : Cx) (pins : List (Addr × Obj)) (σ : St) (Q : List V → Hp → Prop) (us : List Value) (s' : Shared) : Prop := ∃ vs H', Inv X pins σ H' s' ∧ Vals vs us ∧ Q vs H'
def SP (X : Cx) (pins : List (Addr × Obj)) (D : Ends) (f : Flow) (s' : Shared) : Prop :=
  match f with
  | .next => ∃ σ' H', Inv X pins σ' H' s' ∧ D.nx σ' H'
  | .brk => ∃ σ' H', Inv X pins σ' H' s' ∧ D.bk σ' H'
  | .cont => ∃ σ' H', Inv X pins σ' H' s' ∧ D.ct σ' H'
  | .ret u => ∃ v σ' H', Inv X pins σ' H' s' ∧ RelV v u ∧ D.rt v H'
def PE (X : Cx) (e : Expr) (t : TE) : Prop :=
  ∀ (pins : List (Addr × Obj)) (s : Shared) (σ : St) (H : Hp) (Q : VK), Inv X pins σ H s → t σ H Q → wpAny (model X.prog X.w) X.A (eval e X.env) (EP X pins σ Q) X.xe s
def PT (X : Cx) (e : Expr) (t : TT) : Prop :=
  ∀ (pins : List (Addr × Obj)) (s : Shared) (σ : St) (H : Hp) (Q : Bool → Hp → Prop), Inv X pins σ H s → t σ H Q → wpAny (model X.prog X.w) X.A (isTrue e X.env (eval e X.env)) (TP X pins σ Q) X.xe s
def PW (X : Cx) (e : Expr) (t : TT) : Prop :=
  ∀ (whole : Sem Value) (pins : List (Addr × Obj)) (s : Shared) (σ : St) (H : Hp) (Q : Bool → Hp → Prop), Inv X pins σ H s → t σ H Q → wpAny (model X.prog X.w) X.A (isTrue e X.env whole) (TP X pins σ Q) X.xe s
theorem PW.pt {X : Cx} {e : Expr} {t : TT} (h : PW X e t) : PT X e t := h _
def PA (X : Cx) (es : List Expr) (t : TA) : Prop :=
  ∀ (pos : Pos) (pins : List (Addr × Obj)) (s : Shared) (σ : St) (H : Hp) (Q : List V → Hp → Prop), Inv X pins σ H s → t σ H Q → wpAny (model X.prog X.w) X.A (spliced (backTo pos (starEach es X.env))) (AP X pins σ Q) X.xe s
def PS (X : Cx) (st : Stmt) (t : TS) : Prop :=
  ∀ (pins : List (Addr × Obj)) (s : Shared) (σ : St) (H : Hp) (D : Ends), Inv X pins σ H s → t D σ H → wpAny (model X.prog X.w) X.A (exec st X.env) (SP X pins D) X.xe s
def PSs (X : Cx) (st : List Stmt) (t : TS) : Prop :=
  ∀ (pins : List (Addr × Obj)) (s : Shared) (σ : St) (H : Hp) (D : Ends), Inv X pins σ H s → t D σ H → wpAny (model X.prog X.w) X.A (execs st X.env) (SP X pins D) X.xe s
theorem thn {α : Type} {t : Sem α} {Q Q' : α → Shared → Prop} {M : Model} {A : Around} {E : Value → Shared → Prop} {s : Shared} (h : wpAny M A t Q E s) (hQ : ∀ a s, Q a s → Q' a s) : wpAny M A t Q' E s := wpAny_mono h hQ fun _ _ x => x
end L2
namespace L2
open PySem PySem.Spec PyProof.Rows
section
variable {X : Cx}
def tVar (i : Nat) : TE := fun σ H Q => ∃ v, σ[i]? = some (some v) ∧ Q v H
def tC (v : V) : TE := fun _ H Q => Q v H
theorem pe_var {i : Nat} {x : Str} {pos : Pos} (hN : X.N[i]? = some x) (hv : Vis X.env.scope x) (hd : (x == ("__debug__" : Str)) = false := by decide) (hcd : (x == ("__classdict__" : Str)) = false := by decide) : PE X (.Name x pos) (tVar i) := by
  intro pins s σ H Q I h
  obtain ⟨v, e, h⟩ := h
  obtain ⟨m, hn, hl⟩ := I.loc
  obtain ⟨u, r, l⟩ := hl i x v hN e hv
  have fin : EP X pins σ Q u s := ⟨v, H, I, r, h⟩
  rcases l with ⟨hk, hm⟩ | ⟨hk, c, hc, hcell⟩
  · exact wpAny_Name (wpAny_loadName_local I.ok.kind hk hn hm fin) hd
  · rcases hk with hk | hk
    · exact wpAny_Name (wpAny_loadName_cell I.ok.kind hk hc hcell fin) hd
    · exact wpAny_Name (wpAny_loadName_free I.ok.kind hk hc hcell fin hcd) hd
theorem pe_int {i j pos} : PE X (.Constant (.int i) j pos) (tC (.int i)) := fun _ _ _ H _ I h => wpAny_Constant_int ⟨.int i, H, I.tok _, ⟨_, rfl⟩, h⟩
theorem pe_bl {b j pos} : PE X (.Constant (.bool b) j pos) (tC (.bl b)) := fun _ _ _ H _ I h => Constant_bool ⟨.bl b, H, I, rfl, h⟩
theorem pe_non {j pos} : PE X (.Constant .none j pos) (tC .non) := fun _ _ _ H _ I h => Constant_none ⟨.non, H, I, rfl, h⟩
theorem pe_str {x j pos} : PE X (.Constant (.str x) j pos) (tC (.str x)) := fun _ _ _ H _ I h => Calls.Constant_str ⟨.str x, H, I.tok _, ⟨_, rfl⟩, h⟩
def Gl (X : Cx) (x : Str) : Prop := X.env.kindOf x = some .globalImplicit
theorem ld_glob {E : Value → Shared → Prop} {pins : List (Addr × Obj)} {s : Shared} {σ : St} {H : Hp} {x : Str} {u : Value} {pos : Pos} {Q : Value → Shared → Prop} (I : Inv X pins σ H s) (hg : Gl X x) (hm : X.mg x = some u) (h : Q u s)
    (hd : (x == ("__debug__" : Str)) = false := by decide) : wpAny (model X.prog X.w) X.A (eval (.Name x pos) X.env) Q E s :=
  Calls.Name_function_global I.ok.kind hg (Calls.loadGlobal_global (by rw [I.ok.glob]; exact I.mod.glob.keeps I.bk) hm h) hd
theorem ld_blt {E : Value → Shared → Prop} {pins : List (Addr × Obj)} {s : Shared} {σ : St} {H : Hp} {x : Str} {u : Value} {pos : Pos} {Q : Value → Shared → Prop} (I : Inv X pins σ H s) (hg : Gl X x) (hm : X.mg x = none) (hv : bootBuiltins x = some u) (h : Q u s)
    (hn : x ≠ "__name__" := by decide) (hd : (x == ("__debug__" : Str)) = false := by decide) : wpAny (model X.prog X.w) X.A (eval (.Name x pos) X.env) Q E s := by
  obtain ⟨mb, h1, h2⟩ := I.mod.blt
  exact Calls.Name_function_global I.ok.kind hg (Calls.loadGlobal_builtin (by rw [I.ok.glob]; exact I.mod.glob.keeps I.bk) hm (by rw [I.ok.blt]; exact h1.keeps I.bk) ((h2 x hn).trans hv) h) hd
theorem pe_glob {x : Str} {v : V} {u : Value} {pos : Pos} (hg : Gl X x) (hm : X.mg x = some u) (r : RelV v u) (hd : (x == ("__debug__" : Str)) = false := by decide) : PE X (.Name x pos) (tC v) :=
  fun _ _ _ H _ I h => ld_glob I hg hm ⟨v, H, I, r, h⟩ hd
theorem pe_bltn {x : Str} {v : V} {u : Value} {pos : Pos} (hg : Gl X x) (hm : X.mg x = none) (hv : bootBuiltins x = some u) (r : RelV v u) (hn : x ≠ "__name__" := by decide) (hd : (x == ("__debug__" : Str)) = false := by decide) : PE X (.Name x pos) (tC v) :=
  fun _ _ _ H _ I h => ld_blt I hg hm hv ⟨v, H, I, r, h⟩ hn hd
variable {a b : Expr} {ta tb : TE} {pos : Pos}
def PC (X : Cx) (op : CmpOp) (a b : Expr) (t : TE) : Prop :=
  ∀ (pins : List (Addr × Obj)) (s : Shared) (σ : St) (H : Hp) (Q : VK), Inv X pins σ H s → t σ H Q →
    wpAny (model X.prog X.w) X.A (eval a X.env) (fun v s₁ => wpAny (model X.prog X.w) X.A (eval b X.env) (fun u s₂ => wpAny (model X.prog X.w) X.A (compareOp op v u) (EP X pins σ Q) X.xe s₂) X.xe s₁) X.xe s
def tB (t : TE) : TT := fun σ H Q => t σ H fun x H1 => ∃ c, x = .bl c ∧ Q c H1
theorem pt_cmp {op : CmpOp} {t : TE} (h : PC X op a b t) (h1 : behindInMarks op b = false := by first | exact nobehind _ (by decide) (by decide) | rfl) : PT X (.Compare a [op] [b] pos) (tB t) := by
  intro pins s σ H Q I hw
  refine wpAny_isTrue_Compare1 (thn (h pins s σ H _ I hw) fun v s1 h1 => thn h1 fun u s2 h2 => thn h2 fun c s3 ⟨x, H1, I1, r1, q1⟩ => ?_) h1
  obtain ⟨d, rfl, q⟩ := q1
  cases r1
  exact wpAny_truthy_bool ⟨H1, I1, q⟩
theorem pt_val {e : Expr} {t : TE} (h : PE X e t) (he : ∀ whole, isTrue e X.env whole = (do let v ← whole; standAt e.pos; holding [v] (truthy v)) := by intro _; rfl) : PT X e (tB t) := by
  intro pins s σ H Q I hw
  refine isTrue_plain (thn (h pins s σ H _ I hw) fun v s1 ⟨x, H1, I1, r1, q1⟩ => ?_) (he _)
  obtain ⟨d, rfl, q⟩ := q1
  cases r1
  exact wpAny_truthy_bool ⟨H1, I1, q⟩
variable {tA tB' : TT} {rest : List Expr}
def tAnd (t u : TT) : TT := fun σ H Q => t σ H fun c H1 => if c = true then u σ H1 Q else Q false H1
def tOr (t u : TT) : TT := fun σ H Q => t σ H fun c H1 => if c = true then Q true H1 else u σ H1 Q
def tNot (t : TT) : TT := fun σ H Q => t σ H fun c H1 => Q (!c) H1
theorem pw_and1 (ha : PT X a tA) : PW X (.BoolOp .And [a] pos) tA := by
  intro wh pins s σ H Q I h
  refine isTrue_and (thn (ha pins s σ H Q I h) fun c s1 e => ?_)
  cases c with
  | true => exact isTrue_and_nil e
  | false => exact e
theorem pw_or1 (ha : PT X a tA) : PW X (.BoolOp .Or [a] pos) tA := by
  intro wh pins s σ H Q I h
  refine isTrue_or (thn (ha pins s σ H Q I h) fun c s1 e => ?_)
  cases c with
  | false => exact isTrue_or_nil e
  | true => exact e
theorem pw_and (ha : PT X a tA) (hb : PW X (.BoolOp .And (b :: rest) pos) tB') : PW X (.BoolOp .And (a :: b :: rest) pos) (tAnd tA tB') := by
  intro wh pins s σ H Q I h
  refine isTrue_and (thn (ha pins s σ H _ I h) fun c s1 ⟨H1, I1, q1⟩ => ?_)
  cases c with
  | true => exact hb wh pins s1 σ H1 Q I1 q1
  | false => exact ⟨H1, I1, q1⟩
theorem pw_or (ha : PT X a tA) (hb : PW X (.BoolOp .Or (b :: rest) pos) tB') : PW X (.BoolOp .Or (a :: b :: rest) pos) (tOr tA tB') := by
  intro wh pins s σ H Q I h
  refine isTrue_or (thn (ha pins s σ H _ I h) fun c s1 ⟨H1, I1, q1⟩ => ?_)
  cases c with
  | true => exact ⟨H1, I1, q1⟩
  | false => exact hb wh pins s1 σ H1 Q I1 q1
theorem pt_not (ha : PT X a tA) : PT X (.UnaryOp .Not a pos) (tNot tA) := by
  intro pins s σ H Q I h
  exact isTrue_not (ha pins s σ H (fun c H1 => Q (!c) H1) I h)
def tAndV (ta tb : TE) : TE := fun σ H Q => ta σ H fun x H1 => ∃ c, x = .bl c ∧ if c = true then tb σ H1 Q else Q (.bl false) H1
theorem pe_one {op} {t : TE} (h : PE X a t) : PE X (.BoolOp op [a] pos) t := fun pins s σ H Q I hw => BoolOp_one (h pins s σ H Q I hw)
theorem pe_and (ha : PE X a ta) (hb : PE X (.BoolOp .And (b :: rest) pos) tb) : PE X (.BoolOp .And (a :: b :: rest) pos) (tAndV ta tb) := by
  intro pins s σ H Q I h
  refine BoolOp_and (thn (ha pins s σ H _ I h) fun v s1 ⟨x, H1, I1, r1, q1⟩ => ?_)
  obtain ⟨c, rfl, q1⟩ := q1
  cases r1
  refine wpAny_truthy_bool ?_
  cases c with
  | true => exact hb pins s1 σ H1 Q I1 q1
  | false => exact ⟨.bl false, H1, I1, rfl, q1⟩
def tIf (t : TT) (ta tb : TE) : TE := fun σ H Q => t σ H fun c H1 => if c = true then ta σ H1 Q else tb σ H1 Q
theorem pe_ifExp {c : Expr} (hc : PT X c tA) (ha : PE X a ta) (hb : PE X b tb) : PE X (.IfExp c a b pos) (tIf tA ta tb) := by
  intro pins s σ H Q I h
  refine wpAny_IfExp (thn (hc pins s σ H _ I h) fun d s1 ⟨H1, I1, q1⟩ => ?_)
  cases d with
  | true => exact ha pins s1 σ H1 Q I1 q1
  | false => exact hb pins s1 σ H1 Q I1 q1
end
end L2
namespace L2
open PySem PySem.Spec PyProof.Rows
def SqL (K : PySem.W.Frag) (H : Hp) (a : Addr) (xs : List V) : Prop :=
  Rd H a (.lst xs) ∨
    ∃ (o : Obj) (its : Array Value) (n : Nat), K.lookup a = some o ∧ o.cls = .type "list" ∧ o.dict = none ∧ o.data = .seq its n ∧ its.size ≤ sizeLine ∧ Vals xs its.toList
def SqT (K : PySem.W.Frag) (H : Hp) (a : Addr) (xs : List V) : Prop :=
  Rd H a (.tup xs) ∨
    ∃ (o : Obj) (its : Array Value) (n : Nat), K.lookup a = some o ∧ o.cls = .type "tuple" ∧ o.data = .seq its n ∧ its.size ≤ sizeLine ∧ Vals xs its.toList
def absV : Value → Option V
  | .none => some .non
  | .bool b => some (.bl b)
  | .int i _ => some (.int i)
  | .str x _ => some (.str x)
  | .bytes b _ => some (.byt b)
  | .float b _ => some (.flt b)
  | .ref a => some (.ref a)
  | .type n => some (.ty n)
  | _ => none
theorem RelV.abs {x : V} {u : Value} (r : RelV x u) : absV u = some x := by
  cases x with
  | non => cases r; rfl
  | bl _ => cases r; rfl
  | int _ => obtain ⟨t, rfl⟩ := r; rfl
  | str _ => obtain ⟨t, rfl⟩ := r; rfl
  | byt _ => obtain ⟨t, rfl⟩ := r; rfl
  | flt _ => obtain ⟨t, rfl⟩ := r; rfl
  | ref _ => cases r; rfl
  | ty _ => cases r; rfl
theorem RelV.inj {x y : V} {u : Value} (r : RelV x u) (q : RelV y u) : x = y := Option.some.inj (r.abs.symm.trans q.abs)
theorem Vals.inj : ∀ {xs ys : List V} {us : List Value}, Vals xs us → Vals ys us → xs = ys
  | _, _, _, .nil, .nil => rfl
  | _, _, _, .cons r t, .cons r' t' => by rw [r.inj r', Vals.inj t t']
section
variable {X : Cx} {pins : List (Addr × Obj)} {σ : St} {H : Hp} {s : Shared} {a : Addr} {xs ys : List V}
theorem SqL.of {K : PySem.W.Frag} (h : H a = some (.lst xs)) : SqL K H a xs := .inl (.inl h)
theorem SqT.of {K : PySem.W.Frag} (h : H a = some (.tup xs)) : SqT K H a xs := .inl (.inl h)
theorem Inv.list (I : Inv X pins σ H s) (h : SqL X.K H a xs) : ∃ its : List Value, Vals xs its ∧ PlainL s.heap a its.toArray ∧ xs.length ≤ sizeLine := by
  rcases h with h | ⟨o, its, n, hk, hc, hd, hs, hz, r⟩
  · obtain ⟨z, its, n, r, e⟩ := h.ok I.hok
    exact ⟨its, r, ⟨_, n, e, rfl, rfl, rfl⟩, z⟩
  · refine ⟨its.toList, r, ⟨o, n, I.kIn a o hk, hc, hd, by simpa using hs⟩, ?_⟩
    have e := r.length
    simp only [Array.length_toList] at e
    omega
theorem Inv.tuple (I : Inv X pins σ H s) (h : SqT X.K H a xs) : ∃ its : List Value, Vals xs its ∧ IsTup s.heap a its.toArray ∧ xs.length ≤ sizeLine := by
  rcases h with h | ⟨o, its, n, hk, hc, hs, hz, r⟩
  · obtain ⟨z, its, r, p⟩ := h.ok I.hok
    exact ⟨its, r, p, z⟩
  · refine ⟨its.toList, r, ⟨o, I.kIn a o hk, hc, n, by simpa using hs⟩, ?_⟩
    have e := r.length
    simp only [Array.length_toList] at e
    omega
theorem Inv.list_inj (I : Inv X pins σ H s) (h : SqL X.K H a xs) (h' : SqL X.K H a ys) : xs = ys := by
  obtain ⟨its, r, ⟨o, n, e, _, _, d⟩, _⟩ := I.list h
  obtain ⟨its', r', ⟨o', n', e', _, _, d'⟩, _⟩ := I.list h'
  rw [e] at e'; cases e'
  rw [d] at d'
  injection d' with d1 _
  have : its = its' := by simpa using congrArg Array.toList d1
  subst this
  exact r.inj r'
end
abbrev Cx.wish (X : Cx) (E : Value → Shared → Prop) : Cx := { X with xe := E }
abbrev Cx.nox (X : Cx) : Cx := X.wish fun _ _ => False
theorem Cx.Ok.wish {X : Cx} (ok : X.Ok) (E : Value → Shared → Prop) : (X.wish E).Ok :=
  ⟨ok.mod, ok.kind, ok.glob, ok.blt, ok.above, ok.inj, ok.has, ok.cab, ok.hd, ok.frames, ok.stk, ok.exf, ok.bs, ok.bsz, ok.noex, ok.exfs, ok.funs, ok.frf⟩
theorem Cx.Ok.unwish {X : Cx} {E : Value → Shared → Prop} (ok : (X.wish E).Ok) : X.Ok :=
  ⟨ok.mod, ok.kind, ok.glob, ok.blt, ok.above, ok.inj, ok.has, ok.cab, ok.hd, ok.frames, ok.stk, ok.exf, ok.bs, ok.bsz, ok.noex, ok.exfs, ok.funs, ok.frf⟩
section
variable {X : Cx} {pins : List (Addr × Obj)} {σ : St} {H : Hp} {s : Shared} {E : Value → Shared → Prop}
theorem Inv.wish (I : Inv X pins σ H s) (E : Value → Shared → Prop) : Inv (X.wish E) pins σ H s := ⟨I.ok.wish E, I.os, I.bare, I.base, I.loc, I.cell, I.free, I.freeC, I.pin, I.hok, I.len⟩
theorem Inv.unwish (I : Inv (X.wish E) pins σ H s) : Inv X pins σ H s := ⟨I.ok.unwish, I.os, I.bare, I.base, I.loc, I.cell, I.free, I.freeC, I.pin, I.hok, I.len⟩
theorem SP.unwish {D : Ends} {f : Flow} {s' : Shared} (h : SP (X.wish E) pins D f s') : SP X pins D f s' := by
  cases f with
  | next => obtain ⟨σ', H', I, q⟩ := h; exact ⟨σ', H', I.unwish, q⟩
  | brk => obtain ⟨σ', H', I, q⟩ := h; exact ⟨σ', H', I.unwish, q⟩
  | cont => obtain ⟨σ', H', I, q⟩ := h; exact ⟨σ', H', I.unwish, q⟩
  | ret u => obtain ⟨v, σ', H', I, r, q⟩ := h; exact ⟨v, σ', H', I.unwish, r, q⟩
theorem PSs.nox {st : List Stmt} {t : TS} (h : PSs X.nox st t) : PSs X st t := fun pins s σ H D I hw =>
  wpAny_mono (h pins s σ H D (I.wish _) hw) (fun _ _ q => q.unwish) fun _ _ z => False.elim z
end
section
variable {X : Cx} {st : Stmt} {rest : List Stmt} {t u : TS} {e : Expr} {te : TE} {pos : Pos}
def tNext : TS := fun D σ H => D.nx σ H
def tSeq (t u : TS) : TS := fun D σ H => t { D with nx := u D } σ H
theorem pss_nil : PSs X [] tNext := fun _ _ σ H _ I h => wpAny_execs_nil ⟨σ, H, I, h⟩
theorem pss_cons (h1 : PS X st t) (h2 : PSs X rest u) : PSs X (st :: rest) (tSeq t u) := by
  intro pins s σ H D I h
  refine wpAny_execs_cons (thn (h1 pins s σ H { D with nx := u D } I h) fun f s1 q => ?_)
  cases f with
  | next =>
    obtain ⟨σ', H', I', q⟩ := q
    exact h2 pins s1 σ' H' D I' q
  | ret v => exact q
  | brk => exact q
  | cont => exact q
theorem pss_one (h1 : PS X st t) : PSs X [st] t := by
  intro pins s σ H D I h
  refine wpAny_execs_cons (thn (h1 pins s σ H D I h) fun f s1 q => ?_)
  cases f with
  | next => exact wpAny_execs_nil q
  | ret v => exact q
  | brk => exact q
  | cont => exact q
theorem Inv.quiet {pins : List (Addr × Obj)} {σ : St} {H : Hp} {s : Shared} (I : Inv X pins σ H s) : interactive X.env = false := by simp [interactive, I.ok.kind]
def tDrop (te : TE) : TS := fun D σ H => te σ H fun _ H1 => D.nx σ H1
theorem ps_expr (he : PE X e te) (hs : swapsWith e none pos.line X.env = pure false := by rfl) : PS X (.Expr e pos) (tDrop te) := by
  intro pins s σ H D I h
  exact wpAny_Expr_any (thn (he pins s σ H _ I h) fun v s1 ⟨x, H1, I1, r1, q1⟩ => ⟨σ, H1, I1, q1⟩) I.quiet hs
def tRet (te : TE) : TS := fun D σ H => te σ H D.rt
theorem ps_ret (he : PE X e te) : PS X (.Return (some e) pos) (tRet te) := by
  intro pins s σ H D I h
  exact wpAny_Return_some (thn (he pins s σ H _ I h) fun v s1 ⟨x, H1, I1, r1, q1⟩ => ⟨x, σ, H1, I1, r1, q1⟩)
def tIfS (c : TT) (t u : TS) : TS := fun D σ H => c σ H fun b H1 => if b = true then t D σ H1 else u D σ H1
theorem ps_if {c : Expr} {a b : List Stmt} {tc : TT} (hc : PT X c tc) (ha : PSs X a t) (hb : PSs X b u) : PS X (.If c a b pos) (tIfS tc t u) := by
  intro pins s σ H D I h
  refine wpAny_If (thn (hc pins s σ H _ I h) fun d s1 ⟨H1, I1, q1⟩ => ?_)
  cases d with
  | true => exact ha pins s1 σ H1 D I1 q1
  | false => exact hb pins s1 σ H1 D I1 q1
def tNever : TS := fun _ _ _ => False
theorem pss_never {sts : List Stmt} : PSs X sts tNever := fun _ _ _ _ _ _ h => h.elim
end
abbrev TG := V → St → Hp → (St → Hp → Prop) → Prop
abbrev TGs := List V → St → Hp → (St → Hp → Prop) → Prop
def PG (X : Cx) (target : Expr) (t : TG) : Prop :=
  ∀ (pins : List (Addr × Obj)) (s : Shared) (σ : St) (H : Hp) (v : V) (u : Value) (Q : St → Hp → Prop), Inv X pins σ H s → RelV v u → t v σ H Q →
    wpAny (model X.prog X.w) X.A (assign target X.env u) (fun _ s' => ∃ σ' H', Inv X pins σ' H' s' ∧ Q σ' H') X.xe s
def PGs (X : Cx) (ts : List Expr) (t : TGs) : Prop :=
  ∀ (pins : List (Addr × Obj)) (s : Shared) (σ : St) (H : Hp) (vs : List V) (us : List Value) (Q : St → Hp → Prop), Inv X pins σ H s → Vals vs us → t vs σ H Q →
    wpAny (model X.prog X.w) X.A (assignInOrder ((assignEach ts X.env).map (·.2)) us) (fun _ s' => ∃ σ' H', Inv X pins σ' H' s' ∧ Q σ' H') X.xe s
abbrev TSet := V → V → V → Hp → (Hp → Prop) → Prop
def PSet (X : Cx) (t : TSet) : Prop :=
  ∀ (pins : List (Addr × Obj)) (s : Shared) (σ : St) (H : Hp) (o i v : V) (ov iv u : Value) (Q : Hp → Prop), Inv X pins σ H s → RelV o ov → RelV i iv → RelV v u → t o i v H Q →
    wpAny (model X.prog X.w) X.A (setItem ov iv u) (fun _ s' => ∃ H', Inv X pins σ H' s' ∧ Q H') X.xe s
abbrev TIp := V → V → Hp → VK → Prop
def PIp (X : Cx) (op : Operator) (t : TIp) : Prop :=
  ∀ (pins : List (Addr × Obj)) (s : Shared) (σ : St) (H : Hp) (x y : V) (v u : Value) (Q : VK), Inv X pins σ H s → RelV x v → RelV y u → t x y H Q →
    wpAny (model X.prog X.w) X.A (inplaceOp op v u) (EP X pins σ Q) X.xe s
section
variable {X : Cx} {pos : Pos}
def gName (i : Nat) : TG := fun v σ H Q => Q (σ.set i (some v)) H
theorem pg_name {i : Nat} {x : Str} (hN : X.N.Nodup) (hi : X.N[i]? = some x) (hx : Loc X.env.scope x) (hf : X.fn x = true ∨ X.env.scope.names.lookup x = some .local := by first | exact .inl rfl | exact .inr rfl | assumption) : PG X (.Name x pos) (gName i) := by
  intro pins s σ H v u Q I r h
  exact wpAny_assign_Name (store_ok I hN hi hx r (fun s' I' => ⟨_, H, I', h⟩) hf)
def gNil : TGs := fun vs σ H Q => vs = [] ∧ Q σ H
def gCons (t : TG) (u : TGs) : TGs := fun vs σ H Q => ∃ v r, vs = v :: r ∧ t v σ H fun σ' H' => u r σ' H' Q
theorem pgs_nil : PGs X [] gNil := by
  intro pins s σ H vs us Q I r h
  obtain ⟨e, h⟩ := h
  subst e
  cases r
  exact assignInOrder_nil ⟨σ, H, I, h⟩
theorem pgs_cons {e : Expr} {es : List Expr} {t : TG} {u : TGs} (h1 : PG X e t) (h2 : PGs X es u)
    (hs : (assignEach (e :: es) X.env).map (·.2) = assign e X.env :: (assignEach es X.env).map (·.2) := by rfl) : PGs X (e :: es) (gCons t u) := by
  intro pins s σ H vs us Q I r h
  obtain ⟨v, vr, e1, h⟩ := h
  subst e1
  cases r with
  | cons r rr =>
    rw [hs]
    refine assignInOrder_cons (thn (h1 pins s σ H _ _ _ I r h) fun _ s1 ⟨σ1, H1, I1, q1⟩ => ?_)
    exact h2 pins s1 σ1 H1 _ _ Q I1 rr q1
def gTup (K : PySem.W.Frag) (n : Nat) (t : TGs) : TG := fun v σ H Q => ∃ a xs, v = .ref a ∧ SqT K H a xs ∧ xs.length = n ∧ t xs σ H Q
theorem pg_tup {es : List Expr} {k : Nat} {t : TGs} {n : Nat} (hc : X.calm = true) (h : PGs X es t)
    (hn : (assignEach es X.env).length = n := by rfl) (hst : (assignEach es X.env).findIdx? (·.1) = none := by rfl) : PG X (.Tuple es k pos) (gTup X.K n t) := by
  intro pins s σ H v u Q I r hw
  obtain ⟨a, xs, e1, hq, hl, hw⟩ := hw
  subst e1
  cases r
  obtain ⟨its, rv, ht, hz⟩ := I.tuple hq
  refine assign_Tuple_tuple (I.ok.hd hc) ht (by simp [hn, ← hl, rv.length]) hst fun h' hx => ?_
  have I1 : Inv X pins σ H { s with heap := h' } := I.kept (t' := s.toks) fun b o e => hx b o (Nat.ne_of_lt (Heap.lt_size e)) e
  exact h pins _ σ H xs _ Q I1 (by simpa using rv) hw
def gSub (to ti : TE) (t : TSet) : TG := fun v σ H Q => to σ H fun o H1 => ti σ H1 fun i H2 => t o i v H2 fun H3 => Q σ H3
theorem pg_sub {o i : Expr} {to ti : TE} {t : TSet} (ho : PE X o to) (hi : PE X i ti) (hs : PSet X t)
    (ha : ∀ v, assign (.Subscript o i pos) X.env v = (do
      let ov ← holding [v] (eval o X.env)
      let iv ← holding [v, ov] (eval i X.env)
      standAt pos
      holding [v, ov, iv] (setItem ov iv v)
      release [v, ov, iv] []) := by intro _; rfl) : PG X (.Subscript o i pos) (gSub to ti t) := by
  intro pins s σ H v u Q I r h
  rw [ha]
  refine wpAny_bind (wpAny_holding (thn (ho pins s σ H _ I h) fun ov s1 ⟨x, H1, I1, r1, q1⟩ => ?_))
  refine wpAny_bind (wpAny_holding (thn (hi pins s1 σ H1 _ I1 q1) fun iv s2 ⟨y, H2, I2, r2, q2⟩ => ?_))
  refine wpAny_bind (wpAny_standAt (wpAny_bind (wpAny_holding (thn (hs pins s2 σ H2 x y v ov iv u _ I2 r1 r2 r q2) fun _ s3 ⟨H3, I3, q3⟩ => ?_))))
  exact wpAny_release ⟨σ, H3, I3, q3⟩
def tAsg (te : TE) (g : TG) : TS := fun D σ H => te σ H fun x H1 => g x σ H1 D.nx
theorem ps_asg {tg e : Expr} {te : TE} {g : TG} (he : PE X e te) (hg : PG X tg g) (hs : swapsWithSole [tg] e pos.line X.env = pure false := by rfl) (hw : swappedStores [tg] e X.env = pure none := by rfl)
    (h1 : (assignEach [tg] X.env).map (·.2) = [assign tg X.env] := by rfl) : PS X (.Assign [tg] e pos) (tAsg te g) := by
  intro pins s σ H D I h
  refine wpAny_Assign_stores (thn (he pins s σ H _ I h) fun v s1 ⟨x, H1, I1, r1, q1⟩ => ?_) hs hw
  rw [h1]
  exact thn (hg pins s1 σ H1 x v _ I1 r1 q1) fun _ s2 q => q
theorem ps_set {i : Nat} {x : Str} {e : Expr} {te : TE} {pos' : Pos} (hN : X.N.Nodup) (hi : X.N[i]? = some x) (hx : Loc X.env.scope x) (he : PE X e te) (hs : swapsWith e (some (.Name x pos')) pos.line X.env = pure false := by rfl) (hf : X.fn x = true ∨ X.env.scope.names.lookup x = some .local := by first | exact .inl rfl | exact .inr rfl | assumption) :
    PS X (.Assign [.Name x pos'] e pos) (tAsg te (gName i)) := by
  intro pins s σ H D I h
  refine wpAny_Assign_Name (thn (he pins s σ H _ I h) fun v s1 ⟨y, H1, I1, r1, q1⟩ => ?_) hs
  exact store_ok I1 hN hi hx r1 (fun s2 I2 => ⟨_, H1, I2, q1⟩) hf
def tAugS (to ti te : TE) (tget : V → V → Hp → VK → Prop) (tip : TIp) (tset : TSet) : TS := fun D σ H => to σ H fun o H1 => ti σ H1 fun i H2 => tget o i H2 fun x H3 => te σ H3 fun y H4 => tip x y H4 fun z H5 => tset o i z H5 fun H6 => D.nx σ H6
def PGet (X : Cx) (t : V → V → Hp → VK → Prop) : Prop :=
  ∀ (pins : List (Addr × Obj)) (s : Shared) (σ : St) (H : Hp) (o i : V) (ov iv : Value) (Q : VK), Inv X pins σ H s → RelV o ov → RelV i iv → t o i H Q →
    wpAny (model X.prog X.w) X.A (getItem ov iv) (EP X pins σ Q) X.xe s
theorem ps_augS {o i e : Expr} {to ti te : TE} {tget : V → V → Hp → VK → Prop} {tip : TIp} {tset : TSet} {op : Operator} {tpos : Pos} (ho : PE X o to) (hi : PE X i ti) (hg : PGet X tget) (he : PE X e te) (hp : PIp X op tip) (hs : PSet X tset)
    (ha : ∀ ov iv new, augStore i ov iv new = (do holding [new, ov, iv] (setItem ov iv new); release [new, ov, iv] []; pure .next) := by intros; rfl) : PS X (.AugAssign (.Subscript o i tpos) op e pos) (tAugS to ti te tget tip tset) := by
  intro pins s σ H D I h
  refine wpAny_AugAssign_SubscriptAny (thn (ho pins s σ H _ I h) fun ov s1 ⟨x1, H1, I1, r1, q1⟩ => ?_) ha
  refine thn (hi pins s1 σ H1 _ I1 q1) fun iv s2 ⟨x2, H2, I2, r2, q2⟩ => ?_
  refine thn (hg pins s2 σ H2 x1 x2 ov iv _ I2 r1 r2 q2) fun old s3 ⟨x3, H3, I3, r3, q3⟩ => ?_
  refine thn (he pins s3 σ H3 _ I3 q3) fun v s4 ⟨x4, H4, I4, r4, q4⟩ => ?_
  refine thn (hp pins s4 σ H4 x3 x4 old v _ I4 r3 r4 q4) fun new s5 ⟨x5, H5, I5, r5, q5⟩ => ?_
  exact thn (hs pins s5 σ H5 x1 x2 x5 ov iv new _ I5 r1 r2 r5 q5) fun _ s6 ⟨H6, I6, q6⟩ => ⟨σ, H6, I6, q6⟩
def ipI (f : Int → Int → Int) : TIp := fun x y H Q => ∃ i j, x = .int i ∧ y = .int j ∧ Q (.int (f i j)) H
theorem ip_add : PIp X .Add (ipI fun i j => i + j) := by
  intro pins s σ H x y v u Q I r1 r2 h
  obtain ⟨i, j, e1, e2, q⟩ := h
  subst e1; subst e2
  obtain ⟨t, rfl⟩ := r1
  obtain ⟨t', rfl⟩ := r2
  exact iadd_int ⟨.int _, H, I.tok _, ⟨_, rfl⟩, q⟩
end
section
variable {X : Cx} {pos : Pos}
end
structure It where
  go : Nat → Hp → Prop
  yld : Nat → Hp → V → Hp → Prop
  stop : Nat → Hp → Prop
def FpOk (X : Cx) (pins : List (Addr × Obj)) (H : Hp) (b : Addr) : Prop :=
  H b = none ∧ b ≠ X.env.locals ∧ b ∉ X.fs ∧ (b ∈ X.ex ∨ X.s₀.heap.objs.size ≤ b) ∧ (∀ x c, X.env.cells.lookup x = some c → c ≠ b) ∧ ∀ p ∈ X.pn ++ pins, p.1 ≠ b
theorem Inv.fpOk {X : Cx} {pins : List (Addr × Obj)} {σ : St} {H H' : Hp} {s : Shared} {b : Addr} (I : Inv X pins σ H s) (hb : s.heap.objs.size ≤ b) (hn : H' b = none) : FpOk X pins H' b := by
  refine ⟨hn, Nat.ne_of_gt (Nat.lt_of_lt_of_le I.lt hb), I.nofs hb, .inr (Nat.le_trans I.sz hb), fun x c e z => ?_, fun p hp z => ?_⟩
  · obtain ⟨v, q⟩ := I.cell x c e
    exact absurd (Nat.lt_of_lt_of_le q.lt (by rw [z]; exact hb)) (Nat.lt_irrefl _)
  · exact absurd (Nat.lt_of_lt_of_le (Heap.lt_size (I.pin p hp).1) (by rw [z]; exact hb)) (Nat.lt_irrefl _)
structure Turn (P : Program) (w : World) (K : PySem.W.Frag) (tg : Expr) (J : It) (fp : List Addr) (it : Addr) (tn : Nat → Heap → Prop) : Prop where
  mem : it ∈ fp
  obj : ∀ i h, tn i h → ∀ b ∈ fp, ∃ o, h.get? b = some o ∧ ∀ v, o.data ≠ .cell v
  keep : ∀ i h h', tn i h → (∀ b ∈ fp, ∀ o, h.get? b = some o → h'.get? b = some o) → tn i h'
  item : ∀ (X : Cx), X.prog = P → X.w = w → X.K = K → X.calm = true → ∀ (i : Nat) (pins : List (Addr × Obj)) (s : Shared) (σ : St) (H : Hp) (E : Value → Shared → Prop), Inv X pins σ H s → (∀ b ∈ fp, FpOk X pins H b) → tn i s.heap → J.go i H →
    wpAny (model P w) X.A (pyNext (.ref it)) (fun r s1 => ∃ u, r = some u ∧
      wpAny (model P w) X.A (letOwnedTupleGo tg (.ref it) u) (fun _ s2 => ∃ x H', Inv X pins σ H' s2 ∧ RelV x u ∧ J.yld i H x H' ∧ tn (i + 1) s2.heap ∧ ∀ b ∈ fp, H' b = none) E s1) E s
  done : ∀ (X : Cx), X.prog = P → X.w = w → X.K = K → X.calm = true → ∀ (i : Nat) (pins : List (Addr × Obj)) (s : Shared) (σ : St) (H : Hp) (E : Value → Shared → Prop), Inv X pins σ H s → (∀ b ∈ fp, FpOk X pins H b) → tn i s.heap → J.stop i H →
    wpAny (model P w) X.A (pyNext (.ref it)) (fun r s1 => r = none ∧ Inv X pins σ H s1) E s
  self : ∀ (A : Around) (i : Nat) (s : Shared) (Q : Value → Shared → Prop) (E : Value → Shared → Prop), tn i s.heap → Q (.ref it) s → wpAny (model P w) A (pyIter (.ref it)) Q E s
abbrev TI := St → Hp → (It → Hp → Prop) → Prop
def PIE (X : Cx) (pins : List (Addr × Obj)) (σ : St) (tg : Expr) (R : It → Hp → Prop) (itv : Value) (s2 : Shared) : Prop :=
  ∃ (it : Addr) (fp : List Addr) (tn : Nat → Heap → Prop) (J : It) (H' : Hp), itv = .ref it ∧ Inv X pins σ H' s2 ∧ Turn X.prog X.w X.K tg J fp it tn ∧ tn 0 s2.heap ∧ (∀ b ∈ fp, FpOk X pins H' b) ∧ R J H'
def PI (X : Cx) (tg iter : Expr) (wi : TI) : Prop :=
  ∀ (pins : List (Addr × Obj)) (s : Shared) (σ : St) (H : Hp) (R : It → Hp → Prop), Inv X pins σ H s → wi σ H R →
    wpAny (model X.prog X.w) X.A (eval iter X.env) (fun v s1 => wpAny (model X.prog X.w) X.A (pyIter v) (PIE X pins σ tg R) X.xe s1) X.xe s
theorem go_of {M : Model} {A : Around} {E : Value → Shared → Prop} {s : Shared} {tg : Expr} {it : Addr} {u : Value} {o : Obj} {n : String} {vs : Array Value} {Q : Unit → Shared → Prop} (ho : s.heap.get? it = some o) (hc : o.cls = .type n) (hd : o.data = .fields vs)
    (hn : ["enumerate", "zip", "dict_itemiterator", "dict_reverseitemiterator", "odict_iterator", "itertools.zip_longest", "itertools.pairwise"].contains n = false) (hQ : Q () s) : wpAny M A (letOwnedTupleGo tg (.ref it) u) Q E s := by
  unfold letOwnedTupleGo
  cases tg <;> first
    | exact wpAny_pure hQ
    | (cases u <;> first
        | exact wpAny_pure hQ
        | (refine wpAny_bind (wpAny_load ho ?_)
           rw [hc, hd]
           show wpAny M A (if (["enumerate", "zip", "dict_itemiterator", "dict_reverseitemiterator", "odict_iterator", "itertools.zip_longest", "itertools.pairwise"].contains n && vs[0]? == some (rawInt _)) = true then _ else _) Q E s
           rw [if_neg (by intro h; rw [hn, Bool.false_and] at h; cases h)]
           exact wpAny_pure hQ))
def Itl (K : PySem.W.Frag) (a : Addr) : It :=
  ⟨fun i H => ∃ xs x, SqL K H a xs ∧ xs[i]? = some x, fun i H x H' => H' = H ∧ ∀ xs, SqL K H a xs → xs[i]? = some x, fun i H => ∃ xs, SqL K H a xs ∧ xs.length ≤ i⟩
def Itr (lo : Int) (n : Nat) : It := ⟨fun i _ => i < n, fun i H x H' => H' = H ∧ x = .int (lo + i), fun i _ => n ≤ i⟩
theorem turn_list {P : Program} {w : World} {K : PySem.W.Frag} {tg : Expr} (a it : Addr) : Turn P w K tg (Itl K a) [it] it (fun i h => h.IsListIter it a i) where
  mem := by simp
  obj := fun i h st b hb => by
    have e : b = it := by simpa using hb
    subst e
    obtain ⟨o, e, c, d⟩ := st
    exact ⟨o, e, fun v z => by rw [d] at z; cases z⟩
  keep := fun i h h' st k => st.at fun o e => k it (by simp) o e
  item := by
    intro X hP hw hK hc i pins s σ H E I hf st hg
    subst hP hw hK
    obtain ⟨xs, x, hq, hx⟩ := hg
    obtain ⟨its, rv, p, hz⟩ := I.list hq
    obtain ⟨u, hu, ru⟩ := rv.get hx
    obtain ⟨f0, f1, f2, f3, f4, f5⟩ := hf it (by simp)
    refine wpAny_pyNext_list_item st p.isList (x := u) (by simpa using hu) fun h' st' sb => ?_
    have I1 : Inv X pins σ H { s with heap := h' } := I.turned (t' := s.toks) (fun b o hb e => (sb.2 b hb).trans e) f0 f1 f3 f4 f5
    obtain ⟨o, e, c, d⟩ := id st'
    exact ⟨u, rfl, go_of (s := { s with heap := h' }) e c d (by decide) ⟨x, H, I1, ru, ⟨rfl, fun ys hy => by rw [I.list_inj hy hq]; exact hx⟩, st', fun b hb => (hf b hb).1⟩⟩
  done := by
    intro X hP hw hK hc i pins s σ H E I hf st hg
    subst hP hw hK
    obtain ⟨xs, hq, hx⟩ := hg
    obtain ⟨its, rv, p, hz⟩ := I.list hq
    obtain ⟨f0, f1, f2, f3, f4, f5⟩ := hf it (by simp)
    have hl := rv.length
    exact wpAny_pyNext_list_end (I.ok.hd hc) st p.isList (by simp; omega) fun h' eb => ⟨rfl, I.turned (t' := s.toks) (fun b o hb e => eb b o hb e) f0 f1 f3 f4 f5⟩
  self := fun _ _ _ _ _ st h => wpAny_pyIter_listiter st h
theorem turn_range {P : Program} {w : World} {K : PySem.W.Frag} {tg : Expr} (it : Addr) (lo : Int) (n : Nat) : Turn P w K tg (Itr lo n) [it] it (fun i h => IsRangeIter h it (lo + (i : Nat) * 1) ((n : Int) - (i : Nat)) 1) where
  mem := by simp
  obj := fun i h st b hb => by
    have e : b = it := by simpa using hb
    subst e
    exact ⟨_, st, fun v z => by
      have z' : Data.fields _ = Data.cell v := z
      cases z'⟩
  keep := fun i h h' st k => k it (by simp) _ st
  item := by
    intro X hP hw hK hc i pins s σ H E I hf st hg
    subst hP hw hK
    obtain ⟨f0, f1, f2, f3, f4, f5⟩ := hf it (by simp)
    have W := Walks.range (prog := X.prog) (w := X.w) (I.ok.hd hc) it lo 1 n
    refine W.item i s _ _ hg st fun v h' tk hv st' kk => ?_
    obtain ⟨t, rfl⟩ := hv
    have I1 : Inv X pins σ H { s with heap := h', toks := tk } := I.turned (fun b o hb e => kk b o (by simpa using hb) e) f0 f1 f3 f4 f5
    refine ⟨_, rfl, go_of (s := { s with heap := h', toks := tk }) (n := "range_iterator") st' rfl rfl (by decide) ⟨.int (lo + i), H, I1, ⟨t, ?_⟩, ⟨rfl, rfl⟩, st', fun b hb => (hf b hb).1⟩⟩
    rw [Int.mul_one]
  done := by
    intro X hP hw hK hc i pins s σ H E I hf st hg
    subst hP hw hK
    obtain ⟨f0, f1, f2, f3, f4, f5⟩ := hf it (by simp)
    exact wpAny_pyNext_range_end (I.ok.hd hc) st (by have : n ≤ i := hg; omega) fun h' eb => ⟨rfl, I.turned (t' := s.toks) (fun b o hb e => eb b o hb e) f0 f1 f3 f4 f5⟩
  self := fun _ _ _ _ _ st h => wpAny_pyIter_rangeiter st h
end L2
namespace L2
open PySem PySem.Spec PyProof.Rows
section
variable {X : Cx} {tg : Expr}
def iList (K : PySem.W.Frag) (tl : TE) : TI := fun σ H R => tl σ H fun x H1 => ∃ a, x = .ref a ∧ (∃ xs, SqL K H1 a xs) ∧ R (Itl K a) H1
theorem pi_list {l : Expr} {tl : TE} (hl : PE X l tl) : PI X tg l (iList X.K tl) := by
  intro pins s σ H R I h
  refine thn (hl pins s σ H _ I h) fun v s1 ⟨x, H1, I1, r1, q1⟩ => ?_
  obtain ⟨a, e, ⟨xs, hq⟩, q⟩ := q1
  subst e
  cases r1
  obtain ⟨its, rv, p, hz⟩ := I1.list hq
  refine wpAny_pyIter_list p.isList ?_
  refine ⟨s1.heap.objs.size, [s1.heap.objs.size], _, _, H1, rfl, I1.kept (t' := s1.toks) fun b o e => Heap.get?_push_of_some _ e, turn_list a _, ⟨_, Heap.get?_push_size _ rfl, rfl, rfl⟩, fun b hb => ?_, q⟩
  have e : b = s1.heap.objs.size := by simpa using hb
  subst e
  exact I1.fpOk (Nat.le_refl _) (I1.hok.fresh (Nat.le_refl _))
theorem range_it {pins : List (Addr × Obj)} {σ : St} {H : Hp} {s : Shared} {R : It → Hp → Prop} {E : Value → Shared → Prop} {lo hi : Int} {t u v : Tok} {tk : Nat} (I : Inv X pins σ H s) (h1 : -(2 ^ 62) ≤ lo) (h2 : lo < 2 ^ 62) (h3 : -(2 ^ 62) ≤ hi) (h4 : hi < 2 ^ 62)
    (q : R (Itr lo (hi - lo).toNat) H) : wpAny (model X.prog X.w) X.A (pyIter (.ref s.heap.objs.size)) (PIE X pins σ tg R) E { s with heap := s.heap.push { cls := .type "range", data := .fields #[.int lo t, .int hi u, .int 1 v] }, toks := tk } := by
  refine wpAny_pyIter_range (IsRange.new ..) (small_one h1 h2 h3 h4) ?_
  have I1 : Inv X pins σ H { s with heap := s.heap.push { cls := .type "range", data := .fields #[.int lo t, .int hi u, .int 1 v] }, toks := tk } := I.kept fun b o e => Heap.get?_push_of_some _ e
  refine ⟨(s.heap.push { cls := .type "range", data := .fields #[.int lo t, .int hi u, .int 1 v] }).objs.size, [(s.heap.push { cls := .type "range", data := .fields #[.int lo t, .int hi u, .int 1 v] }).objs.size], _, _, H, rfl,
    I1.kept (t' := tk) fun b o e => Heap.get?_push_of_some _ e, turn_range _ lo (hi - lo).toNat, ?_, fun b hb => ?_, q⟩
  · have e1 : lo + ((0 : Nat) : Int) * 1 = lo := by simp
    have e2 : (((hi - lo).toNat : Nat) : Int) - ((0 : Nat) : Int) = Builtin.Range.rangeSize lo hi 1 := by rw [rangeSize_one]; split <;> omega
    show IsRangeIter _ _ (lo + ((0 : Nat) : Int) * 1) ((((hi - lo).toNat : Nat) : Int) - ((0 : Nat) : Int)) 1
    rw [e1, e2]
    exact Heap.get?_push_size _ rfl
  · have e : b = (s.heap.push { cls := .type "range", data := .fields #[.int lo t, .int hi u, .int 1 v] }).objs.size := by simpa using hb
    subst e
    exact I1.fpOk (Nat.le_refl _) (I1.hok.fresh (Nat.le_refl _))
def iRng1 (ta : TA) : TI := fun σ H R => ta σ H fun vs H1 => ∃ j : Int, vs = [.int j] ∧ -(2 ^ 62) ≤ j ∧ j < 2 ^ 62 ∧ R (Itr 0 j.toNat) H1
def iRng2 (ta : TA) : TI := fun σ H R => ta σ H fun vs H1 => ∃ i j : Int, vs = [.int i, .int j] ∧ (-(2 ^ 62) ≤ i ∧ i < 2 ^ 62 ∧ -(2 ^ 62) ≤ j ∧ j < 2 ^ 62) ∧ R (Itr i (j - i).toNat) H1
theorem pi_range1 {a : Expr} {ta : TA} {p pos : Pos} (hg : Gl X "range") (hm : X.mg "range" = none) (ha : PA X [a] ta) (hs : starEach [a] X.env = [(false, eval a X.env)] := by rfl) : PI X tg (.Call (.Name "range" p) [a] [] pos) (iRng1 ta) := by
  intro pins s σ H R I h
  refine Call_ (ld_blt I hg hm boot_range (PyProof.Rows.callWith_type1 (thn (ha pos pins s σ H _ I h) fun us s1 ⟨vs, H1, I1, r1, q1⟩ => ?_) hs rfl))
  obtain ⟨j, e, q1, q2, q⟩ := q1
  subst e
  cases r1 with
  | cons r rr =>
    cases rr
    obtain ⟨t, rfl⟩ := r
    exact call_range_1 (range_it I1 (by omega) (by omega) q1 q2 (by simpa using q))
theorem pi_range2 {a b : Expr} {ta : TA} {p pos : Pos} (hg : Gl X "range") (hm : X.mg "range" = none) (ha : PA X [a, b] ta) (hs : starEach [a, b] X.env = [(false, eval a X.env), (false, eval b X.env)] := by rfl) (hs2 : starEach [b] X.env = [(false, eval b X.env)] := by rfl) :
    PI X tg (.Call (.Name "range" p) [a, b] [] pos) (iRng2 ta) := by
  intro pins s σ H R I h
  refine Call_ (ld_blt I hg hm boot_range (PyProof.Rows.callWith_type1 (thn (ha pos pins s σ H _ I h) fun us s1 ⟨vs, H1, I1, r1, q1⟩ => ?_) (by rw [hs, hs2]) (by rw [hs2]; rfl)))
  obtain ⟨i, j, e, ⟨q1, q2, q3, q4⟩, q⟩ := q1
  subst e
  cases r1 with
  | cons r rr =>
    cases rr with
    | cons r' rr =>
      cases rr
      obtain ⟨t, rfl⟩ := r
      obtain ⟨t', rfl⟩ := r'
      exact call_range_2 (range_it I1 q1 q2 q3 q4 q)
def tFor (wi : TI) (g : TG) (tb : TS) : TS := fun D σ H => wi σ H fun J H1 => ∃ W : Nat → Nat → St → Hp → Prop, (∃ m, W 0 m σ H1) ∧ ∀ i m σ H, W i m σ H →
  (J.stop i H ∧ D.nx σ H) ∨ (J.go i H ∧ ∃ N : St → Hp → Prop, (∀ σ' H', N σ' H' → ∃ m', m' < m ∧ W (i + 1) m' σ' H') ∧ ∀ x H', J.yld i H x H' → g x σ H' fun σ2 H2 => tb { D with nx := N, ct := N, bk := D.nx } σ2 H2)
def pinsAt (fp : List Addr) (h : Heap) : List (Addr × Obj) := fp.filterMap fun b => (h.get? b).map fun o => (b, o)
theorem mem_pinsAt {fp : List Addr} {h : Heap} {b : Addr} {o : Obj} (hb : b ∈ fp) (e : h.get? b = some o) : (b, o) ∈ pinsAt fp h := List.mem_filterMap.mpr ⟨b, hb, by rw [e]; rfl⟩
theorem of_pinsAt {fp : List Addr} {h : Heap} {p : Addr × Obj} (hp : p ∈ pinsAt fp h) : p.1 ∈ fp ∧ h.get? p.1 = some p.2 := by
  obtain ⟨b, hb, e⟩ := List.mem_filterMap.mp hp
  cases q : h.get? b with
  | none => rw [q] at e; cases e
  | some o =>
    rw [q] at e
    have e' : (b, o) = p := Option.some.inj e
    subst e'
    exact ⟨hb, q⟩
theorem Inv.pinned {pins : List (Addr × Obj)} {σ : St} {H : Hp} {s : Shared} {fp : List Addr} (I : Inv X pins σ H s) (hf : ∀ b ∈ fp, FpOk X pins H b) (ho : ∀ b ∈ fp, ∃ o, s.heap.get? b = some o ∧ ∀ v, o.data ≠ .cell v) : Inv X (pins ++ pinsAt fp s.heap) σ H s :=
  I.pins_of fun p hp => (List.mem_append.mp hp).elim (fun z => I.pin p (List.mem_append_right _ z)) fun z => by
    obtain ⟨hb, e⟩ := of_pinsAt z
    obtain ⟨f0, f1, f2, _⟩ := hf p.1 hb
    obtain ⟨o, e', d⟩ := ho p.1 hb
    rw [e] at e'; cases e'
    exact ⟨e, f0, f1, f2, d⟩
theorem Inv.unpinned {pins pl : List (Addr × Obj)} {σ : St} {H : Hp} {s : Shared} (I : Inv X (pins ++ pl) σ H s) : Inv X pins σ H s := I.pins_of fun p hp => I.pin p (List.mem_append_right _ (List.mem_append_left _ hp))
theorem ps_for {iter : Expr} {body : List Stmt} {wi : TI} {g : TG} {tb : TS} {pos : Pos} (hp : PassesOwn (model X.prog X.w) X.A X.env X.xe) (hc : X.calm = true) (hi : PI X tg iter wi) (hg : PG X tg g) (hb : PSs X body tb)
    (hs : ∀ x, foldedSetIterable iter X.env x = pure x := by intro _; rfl) : PS X (.For tg iter body [] pos) (tFor wi g tb) := by
  intro pins s σ H D I h
  refine wpAny_For (thn (hi pins s σ H _ I h) fun v s1 h1 => thn h1 fun itv s2 h2 => ?_) hs
  obtain ⟨it, fp, tn, J, H2, e, I2, T, st2, f2, W, ⟨m0, w0⟩, turn⟩ := h2
  subst e
  -- what stays true of the iterator's objects through the loop
  have stat : ∀ {H' : Hp}, (∀ b ∈ fp, H' b = none) → ∀ b ∈ fp, FpOk X pins H' b := fun hn b hb => ⟨hn b hb, (f2 b hb).2⟩
  refine codeAny_forLoop_any (fun n s' => ∃ i σ' H', Inv X pins σ' H' s' ∧ tn i s'.heap ∧ (∀ b ∈ fp, H' b = none) ∧ W i n σ' H') ?_ m0 ⟨0, σ, H2, I2, st2, fun b hb => (f2 b hb).1, w0⟩
  rintro n s3 ⟨i, σ3, H3, I3, st3, fr3, w3⟩
  rcases turn i n σ3 H3 w3 with ⟨stop, qn⟩ | ⟨go, N, hN, step⟩
  · refine wpAny_passesOwn hp (thn (T.done X rfl rfl rfl hc i pins s3 σ3 H3 X.xe I3 (stat fr3) st3 stop) fun r s4 ⟨hr, I4⟩ => ?_)
    subst hr
    exact wpAny_execs_nil ⟨σ3, H3, I4, qn⟩
  · refine wpAny_passesOwn hp (thn (T.item X rfl rfl rfl hc i pins s3 σ3 H3 X.xe I3 (stat fr3) st3 go) fun r s4 ⟨u, hr, h4⟩ => ?_)
    subst hr
    refine wpAny_passesOwn hp (thn h4 fun _ s5 ⟨x, H5, I5, r5, y5, st5, fr5⟩ => ?_)
    have I5' := I5.pinned (stat fr5) (T.obj _ _ st5)
    refine wpAny_passesOwn hp (thn (hg _ s5 σ3 H5 x u _ I5' r5 (step x H5 y5)) fun _ s6 ⟨σ6, H6, I6, q6⟩ => ?_)
    refine wpAny_passesOwn hp (thn (hb _ s6 σ6 H6 _ I6 q6) fun f s7 q7 => ?_)
    have again : ∀ {σ7 : St} {H7 : Hp}, Inv X (pins ++ pinsAt fp s5.heap) σ7 H7 s7 → N σ7 H7 → ∃ m, m < n ∧ ∃ i σ' H', Inv X pins σ' H' s7 ∧ tn i s7.heap ∧ (∀ b ∈ fp, H' b = none) ∧ W i m σ' H' := fun {σ7 H7} I7 n7 => by
      obtain ⟨m', hm, w7⟩ := hN σ7 H7 n7
      refine ⟨m', hm, i + 1, σ7, H7, I7.unpinned, T.keep _ _ _ st5 fun b hb o e => (I7.pin (b, o) (List.mem_append_right _ (List.mem_append_right _ (mem_pinsAt hb e)))).1, fun b hb => ?_, w7⟩
      obtain ⟨o, e, d⟩ := T.obj _ _ st5 b hb
      exact (I7.pin (b, o) (List.mem_append_right _ (List.mem_append_right _ (mem_pinsAt hb e)))).2.1
    cases f with
    | next => obtain ⟨σ7, H7, I7, n7⟩ := q7; exact again I7 n7
    | cont => obtain ⟨σ7, H7, I7, n7⟩ := q7; exact again I7 n7
    | brk => obtain ⟨σ7, H7, I7, q7⟩ := q7; exact ⟨σ7, H7, I7.unpinned, q7⟩
    | ret v => obtain ⟨x7, σ7, H7, I7, r7, q7⟩ := q7; exact ⟨x7, σ7, H7, I7.unpinned, r7, q7⟩
end
theorem for_list {K : PySem.W.Frag} {a : Addr} {xs : List V} {g : TG} {tb : TS} {D : Ends} {σ : St} {H : Hp} (Pv : Nat → St → Hp → Prop) (h0 : Pv 0 σ H) (hl : ∀ i σ H, i ≤ xs.length → Pv i σ H → SqL K H a xs)
    (hs : ∀ i x σ H, xs[i]? = some x → Pv i σ H → g x σ H fun σ2 H2 => tb { D with nx := Pv (i + 1), ct := Pv (i + 1), bk := D.nx } σ2 H2) (hd : ∀ σ H, Pv xs.length σ H → D.nx σ H) :
    ∃ W : Nat → Nat → St → Hp → Prop, (∃ m, W 0 m σ H) ∧ ∀ i m σ H, W i m σ H →
      ((Itl K a).stop i H ∧ D.nx σ H) ∨ ((Itl K a).go i H ∧ ∃ N : St → Hp → Prop, (∀ σ' H', N σ' H' → ∃ m', m' < m ∧ W (i + 1) m' σ' H') ∧ ∀ x H', (Itl K a).yld i H x H' → g x σ H' fun σ2 H2 => tb { D with nx := N, ct := N, bk := D.nx } σ2 H2) := by
  refine ⟨fun i m σ H => m = xs.length - i ∧ i ≤ xs.length ∧ Pv i σ H, ⟨xs.length, by simp, Nat.zero_le _, h0⟩, ?_⟩
  rintro i m σ H ⟨rfl, hi, p⟩
  have q := hl i σ H hi p
  by_cases hlt : i < xs.length
  · refine .inr ⟨⟨xs, xs[i], q, by simp [hlt]⟩, Pv (i + 1), fun σ' H' p' => ⟨xs.length - (i + 1), by omega, rfl, hlt, p'⟩, fun x H' y => ?_⟩
    obtain ⟨e, y⟩ := y
    subst e
    exact hs i x σ _ (y xs q) p
  · have e : i = xs.length := by omega
    subst e
    exact .inl ⟨⟨xs, q, Nat.le_refl _⟩, hd σ H p⟩
theorem for_range {lo : Int} {n : Nat} {g : TG} {tb : TS} {D : Ends} {σ : St} {H : Hp} (Pv : Nat → St → Hp → Prop) (h0 : Pv 0 σ H)
    (hs : ∀ i σ H, i < n → Pv i σ H → g (.int (lo + i)) σ H fun σ2 H2 => tb { D with nx := Pv (i + 1), ct := Pv (i + 1), bk := D.nx } σ2 H2) (hd : ∀ σ H, Pv n σ H → D.nx σ H) :
    ∃ W : Nat → Nat → St → Hp → Prop, (∃ m, W 0 m σ H) ∧ ∀ i m σ H, W i m σ H →
      ((Itr lo n).stop i H ∧ D.nx σ H) ∨ ((Itr lo n).go i H ∧ ∃ N : St → Hp → Prop, (∀ σ' H', N σ' H' → ∃ m', m' < m ∧ W (i + 1) m' σ' H') ∧ ∀ x H', (Itr lo n).yld i H x H' → g x σ H' fun σ2 H2 => tb { D with nx := N, ct := N, bk := D.nx } σ2 H2) := by
  refine ⟨fun i m σ H => m = n - i ∧ i ≤ n ∧ Pv i σ H, ⟨n, by simp, Nat.zero_le _, h0⟩, ?_⟩
  rintro i m σ H ⟨rfl, hi, p⟩
  by_cases hlt : i < n
  · refine .inr ⟨hlt, Pv (i + 1), fun σ' H' p' => ⟨n - (i + 1), by omega, rfl, hlt, p'⟩, fun x H' y => ?_⟩
    obtain ⟨e, y⟩ := y
    subst e y
    exact hs i σ _ hlt p
  · have e : i = n := by omega
    subst e
    exact .inl ⟨Nat.le_refl _, hd σ H p⟩
end L2
namespace L2
open PySem PySem.Spec PyProof.Rows
abbrev R2 := V → V → Hp → VK → Prop
def OpR (X : Cx) (f : Value → Value → Sem Value) (r : R2) : Prop :=
  ∀ (pins : List (Addr × Obj)) (s : Shared) (σ : St) (H : Hp) (x y : V) (v u : Value) (Q : VK), Inv X pins σ H s → RelV x v → RelV y u → r x y H Q →
    wpAny (model X.prog X.w) X.A (f v u) (EP X pins σ Q) X.xe s
def UnR (X : Cx) (f : Value → Sem Value) (r : V → Hp → VK → Prop) : Prop :=
  ∀ (pins : List (Addr × Obj)) (s : Shared) (σ : St) (H : Hp) (x : V) (v : Value) (Q : VK), Inv X pins σ H s → RelV x v → r x H Q →
    wpAny (model X.prog X.w) X.A (f v) (EP X pins σ Q) X.xe s
def CallR (X : Cx) (f : Value) (r : List V → Hp → VK → Prop) : Prop :=
  ∀ (pins : List (Addr × Obj)) (s : Shared) (σ : St) (H : Hp) (xs : List V) (us : List Value) (Q : VK), Inv X pins σ H s → Vals xs us → r xs H Q →
    wpAny (model X.prog X.w) X.A (call f us) (EP X pins σ Q) X.xe s
def tOp (r : R2) (ta tb : TE) : TE := fun σ H Q => ta σ H fun x H1 => tb σ H1 fun y H2 => r x y H2 Q
def tUn (r : V → Hp → VK → Prop) (ta : TE) : TE := fun σ H Q => ta σ H fun x H1 => r x H1 Q
def rI (C : Int → Int → Prop) (g : Int → Int → V) : R2 := fun x y H Q => ∃ i j, x = .int i ∧ y = .int j ∧ C i j ∧ Q (g i j) H
def rI0 (g : Int → Int → V) : R2 := fun x y H Q => ∃ i j, x = .int i ∧ y = .int j ∧ Q (g i j) H
def rU (g : Int → V) : V → Hp → VK → Prop := fun x H Q => ∃ i, x = .int i ∧ Q (g i) H
section
variable {X : Cx} {a b c : Expr} {ta tb tc : TE} {pos : Pos}
theorem binT (ha : PE X a ta) (hb : PE X b tb) {pins : List (Addr × Obj)} {s : Shared} {σ : St} {H : Hp} {R : V → V → Hp → Prop} (I : Inv X pins σ H s)
    (h : ta σ H fun x H1 => tb σ H1 fun y H2 => R x y H2) {Q : Value → Shared → Prop} {f : Value → Value → Sem Value}
    (hf : ∀ v u s2 x y H2, Inv X pins σ H2 s2 → RelV x v → RelV y u → R x y H2 → wpAny (model X.prog X.w) X.A (f v u) Q X.xe s2) :
    wpAny (model X.prog X.w) X.A (eval a X.env) (fun v s₁ => wpAny (model X.prog X.w) X.A (eval b X.env) (fun u s₂ => wpAny (model X.prog X.w) X.A (f v u) Q X.xe s₂) X.xe s₁) X.xe s := by
  refine thn (ha pins s σ H _ I h) fun v s1 ⟨x, H1, I1, r1, q1⟩ => ?_
  refine thn (hb pins s1 σ H1 _ I1 q1) fun u s2 ⟨y, H2, I2, r2, q2⟩ => ?_
  exact hf v u s2 x y H2 I2 r1 r2 q2
theorem pe_op {op : Operator} {r : R2} (ho : OpR X (binaryOp op) r) (ha : PE X a ta) (hb : PE X b tb) : PE X (.BinOp a op b pos) (tOp r ta tb) := by
  intro pins s σ H Q I h
  exact wpAny_BinOp (binT ha hb I h fun v u s2 x y H2 I2 rx ry q => ho pins s2 σ H2 x y v u Q I2 rx ry q)
theorem pe_un {op : UnaryOp} {r : V → Hp → VK → Prop} (ho : UnR X (unaryOp op) r) (ha : PE X a ta) : PE X (.UnaryOp op a pos) (tUn r ta) := by
  intro pins s σ H Q I h
  exact UnaryOp_ (thn (ha pins s σ H _ I h) fun v s1 ⟨x, H1, I1, r1, q1⟩ => ho pins s1 σ H1 x v Q I1 r1 q1)
theorem opI {f : Value → Value → Sem Value} {C : Int → Int → Prop} {g : Int → Int → Int}
    (rule : ∀ (i j : Int) (t u : Tok) (s : Shared) (Q : Value → Shared → Prop) (E : Value → Shared → Prop), C i j → Q (.int (g i j) s.toks) { s with toks := s.toks + 1 } → wpAny (model X.prog X.w) X.A (f (.int i t) (.int j u)) Q E s) :
    OpR X f (rI C fun i j => .int (g i j)) := by
  intro pins s σ H x y v u Q I rx ry h
  obtain ⟨i, j, rfl, rfl, hc, q⟩ := h
  obtain ⟨t, rfl⟩ := rx
  obtain ⟨t', rfl⟩ := ry
  exact rule i j t t' s _ _ hc ⟨.int (g i j), H, I.tok _, ⟨_, rfl⟩, q⟩
theorem opI0 {f : Value → Value → Sem Value} {g : Int → Int → Int}
    (rule : ∀ (i j : Int) (t u : Tok) (s : Shared) (Q : Value → Shared → Prop) (E : Value → Shared → Prop), Q (.int (g i j) s.toks) { s with toks := s.toks + 1 } → wpAny (model X.prog X.w) X.A (f (.int i t) (.int j u)) Q E s) :
    OpR X f (rI0 fun i j => .int (g i j)) := by
  intro pins s σ H x y v u Q I rx ry h
  obtain ⟨i, j, rfl, rfl, q⟩ := h
  obtain ⟨t, rfl⟩ := rx
  obtain ⟨t', rfl⟩ := ry
  exact rule i j t t' s _ _ ⟨.int (g i j), H, I.tok _, ⟨_, rfl⟩, q⟩
theorem opB0 {f : Value → Value → Sem Value} {g : Int → Int → Bool}
    (rule : ∀ (i j : Int) (t u : Tok) (s : Shared) (Q : Value → Shared → Prop) (E : Value → Shared → Prop), Q (.bool (g i j)) s → wpAny (model X.prog X.w) X.A (f (.int i t) (.int j u)) Q E s) :
    OpR X f (rI0 fun i j => .bl (g i j)) := by
  intro pins s σ H x y v u Q I rx ry h
  obtain ⟨i, j, rfl, rfl, q⟩ := h
  obtain ⟨t, rfl⟩ := rx
  obtain ⟨t', rfl⟩ := ry
  exact rule i j t t' s _ _ ⟨.bl (g i j), H, I, rfl, q⟩
def CDiv (i j : Int) : Prop := 0 < j ∧ j < 1073741824
def CPow (i j : Int) : Prop := 0 ≤ j ∧ j ≤ 1000000 ∧ i.natAbs < 2 ^ 64
def CMul (i j : Int) : Prop := (-(2 ^ 64) < i ∧ i < 2 ^ 64) ∨ (-(2 ^ 64) < j ∧ j < 2 ^ 64)
theorem CMul.ok {i j : Int} (h : CMul i j) : IntMulOk i j := by
  rcases h with ⟨h1, h2⟩ | ⟨h1, h2⟩
  · exact .of_left (intBits_le_64 h1 h2)
  · exact .of_right (intBits_le_64 h1 h2)
theorem op_add : OpR X (binaryOp .Add) (rI0 fun i j => .int (i + j)) := opI0 fun _ _ _ _ _ _ _ q => add_int q
theorem op_sub : OpR X (binaryOp .Sub) (rI0 fun i j => .int (i - j)) := opI0 fun _ _ _ _ _ _ _ q => sub_int q
theorem op_mul : OpR X (binaryOp .Mult) (rI CMul fun i j => .int (i * j)) := opI fun _ _ _ _ _ _ _ hc q => mul_int q hc.ok
theorem op_fdiv : OpR X (binaryOp .FloorDiv) (rI CDiv fun i j => .int (i / j)) := opI fun i j _ _ _ _ _ hc q => by
  have h1 : (0 : Int) < j := hc.1
  have h2 : j < 1073741824 := hc.2
  exact floordiv_int (by omega) (by rw [Int.fdiv_eq_ediv_of_nonneg i (by omega)]; exact q) (.inl (PyProof.noPylong_small (by omega)))
theorem op_mod : OpR X (binaryOp .Mod) (rI (fun _ j => 0 < j) fun i j => .int (i % j)) := opI fun i j _ _ _ _ _ hc q => by
  have h1 : (0 : Int) < j := hc
  exact mod_int' (by omega) (by rw [Int.fmod_eq_emod_of_nonneg i (by omega)]; exact q)
theorem op_pow : OpR X (binaryOp .Pow) (rI CPow fun i j => .int (i ^ j.toNat)) := opI fun _ _ _ _ _ _ _ hc q => pow_int_small hc.1 hc.2.1 hc.2.2 q
theorem unI {f : Value → Sem Value} {g : Int → Int}
    (rule : ∀ (i : Int) (t : Tok) (s : Shared) (Q : Value → Shared → Prop) (E : Value → Shared → Prop), Q (.int (g i) s.toks) { s with toks := s.toks + 1 } → wpAny (model X.prog X.w) X.A (f (.int i t)) Q E s) :
    UnR X f (rU fun i => .int (g i)) := by
  intro pins s σ H x v Q I rx h
  obtain ⟨i, rfl, q⟩ := h
  obtain ⟨t, rfl⟩ := rx
  exact rule i t s _ _ ⟨.int (g i), H, I.tok _, ⟨_, rfl⟩, q⟩
theorem un_neg : UnR X (unaryOp .USub) (rU fun i => .int (-i)) := unI fun _ _ _ _ _ q => neg_int q
end
def scal : V → V → Bool
  | .non, .non => true | .non, .int _ => true | .int _, .non => true | .non, .bl _ => true | .bl _, .non => true | .non, .str _ => true | .str _, .non => true
  | .int _, .int _ => true | .bl _, .bl _ => true | .str _, .str _ => true | .byt _, .byt _ => true
  | .int _, .str _ => true | .str _, .int _ => true | .bl _, .str _ => true | .str _, .bl _ => true
  | _, _ => false
def rEq : R2 := fun x y H Q => scal x y = true ∧ Q (.bl (decide (x = y))) H
def rNe : R2 := fun x y H Q => scal x y = true ∧ Q (.bl (!decide (x = y))) H
theorem dec_int {i j : Int} : decide (V.int i = V.int j) = (i == j) := by
  rw [Bool.eq_iff_iff]
  simp
theorem dec_bl {i j : Bool} : decide (V.bl i = V.bl j) = (i == j) := by
  rw [Bool.eq_iff_iff]
  simp
theorem dec_str {i j : Str} : decide (V.str i = V.str j) = (i == j) := by
  rw [Bool.eq_iff_iff]
  simp
theorem dec_byt {i j : Array UInt8} : decide (V.byt i = V.byt j) = (i.toList == j.toList) := by
  rw [Bool.eq_iff_iff]
  cases i
  cases j
  simp
section
variable {X : Cx} {a b c : Expr} {ta tb tc : TE} {pos : Pos}
theorem fin_bl {pins : List (Addr × Obj)} {σ : St} {H : Hp} {s : Shared} {Q : VK} {k k' : Bool} (I : Inv X pins σ H s) (q : Q (.bl k) H) (e : k = k') : EP X pins σ Q (.bool k') s := by
  subst e
  exact ⟨.bl k, H, I, rfl, q⟩
theorem op_eq : OpR X (compareOp .Eq) rEq := by
  intro pins s σ H x y v u Q I rx ry h
  obtain ⟨hs, q⟩ := h
  cases x with
  | non =>
    cases rx
    cases y with
    | non => cases ry; exact PySem.EqNone.eq_none_none (fin_bl I q (by simp))
    | bl j => cases ry; exact PySem.EqNone.eq_none_bool (fin_bl I q (by simp))
    | int j => obtain ⟨t', rfl⟩ := ry; exact PySem.EqNone.eq_none_int (fin_bl I q (by simp))
    | str j => obtain ⟨t', rfl⟩ := ry; exact PySem.EqNone.eq_none_str (fin_bl I q (by simp))
    | _ => exact absurd (show false = true from hs) Bool.false_ne_true
  | bl i =>
    cases rx
    cases y with
    | non => cases ry; exact PySem.EqNone.eq_bool_none (fin_bl I q (by simp))
    | bl j => cases ry; exact eq_bool (fin_bl I q dec_bl)
    | str j => obtain ⟨t', rfl⟩ := ry; exact PySem.EqMixed.eq_bool_str (fin_bl I q (by simp))
    | _ => exact absurd (show false = true from hs) Bool.false_ne_true
  | int i =>
    obtain ⟨t, rfl⟩ := rx
    cases y with
    | non => cases ry; exact PySem.EqNone.eq_int_none (fin_bl I q (by simp))
    | int j => obtain ⟨t', rfl⟩ := ry; exact eq_int (fin_bl I q dec_int)
    | str j => obtain ⟨t', rfl⟩ := ry; exact PySem.EqMixed.eq_int_str (fin_bl I q (by simp))
    | _ => exact absurd (show false = true from hs) Bool.false_ne_true
  | str i =>
    obtain ⟨t, rfl⟩ := rx
    cases y with
    | non => cases ry; exact PySem.EqNone.eq_str_none (fin_bl I q (by simp))
    | bl j => cases ry; exact PySem.EqMixed.eq_str_bool (fin_bl I q (by simp))
    | int j => obtain ⟨t', rfl⟩ := ry; exact PySem.EqMixed.eq_str_int (fin_bl I q (by simp))
    | str j => obtain ⟨t', rfl⟩ := ry; exact eq_str (fin_bl I q dec_str)
    | _ => exact absurd (show false = true from hs) Bool.false_ne_true
  | byt i =>
    obtain ⟨t, rfl⟩ := rx
    cases y with
    | byt j => obtain ⟨t', rfl⟩ := ry; exact PySem.W.eq_bytes (fin_bl I q dec_byt)
    | _ => exact absurd (show false = true from hs) Bool.false_ne_true
  | _ => cases y <;> exact absurd (show false = true from hs) Bool.false_ne_true
theorem op_ne : OpR X (compareOp .NotEq) rNe := by
  intro pins s σ H x y v u Q I rx ry h
  obtain ⟨hs, q⟩ := h
  cases x with
  | non =>
    cases rx
    cases y with
    | non => cases ry; exact PySem.EqNone.ne_none_none (fin_bl I q (by simp))
    | bl j => cases ry; exact PySem.EqNone.ne_none_bool (fin_bl I q (by simp))
    | int j => obtain ⟨t', rfl⟩ := ry; exact PySem.EqNone.ne_none_int (fin_bl I q (by simp))
    | str j => obtain ⟨t', rfl⟩ := ry; exact PySem.EqNone.ne_none_str (fin_bl I q (by simp))
    | _ => exact absurd (show false = true from hs) Bool.false_ne_true
  | bl i =>
    cases rx
    cases y with
    | non => cases ry; exact PySem.EqNone.ne_bool_none (fin_bl I q (by simp))
    | bl j => cases ry; exact ne_bool (fin_bl I q (congrArg not dec_bl))
    | str j => obtain ⟨t', rfl⟩ := ry; exact PySem.EqMixed.ne_bool_str (fin_bl I q (by simp))
    | _ => exact absurd (show false = true from hs) Bool.false_ne_true
  | int i =>
    obtain ⟨t, rfl⟩ := rx
    cases y with
    | non => cases ry; exact PySem.EqNone.ne_int_none (fin_bl I q (by simp))
    | int j => obtain ⟨t', rfl⟩ := ry; exact ne_int (fin_bl I q (congrArg not dec_int))
    | str j => obtain ⟨t', rfl⟩ := ry; exact PySem.EqMixed.ne_int_str (fin_bl I q (by simp))
    | _ => exact absurd (show false = true from hs) Bool.false_ne_true
  | str i =>
    obtain ⟨t, rfl⟩ := rx
    cases y with
    | non => cases ry; exact PySem.EqNone.ne_str_none (fin_bl I q (by simp))
    | bl j => cases ry; exact PySem.EqMixed.ne_str_bool (fin_bl I q (by simp))
    | int j => obtain ⟨t', rfl⟩ := ry; exact PySem.EqMixed.ne_str_int (fin_bl I q (by simp))
    | str j => obtain ⟨t', rfl⟩ := ry; exact ne_str (fin_bl I q (congrArg not dec_str))
    | _ => exact absurd (show false = true from hs) Bool.false_ne_true
  | byt i =>
    obtain ⟨t, rfl⟩ := rx
    cases y with
    | byt j => obtain ⟨t', rfl⟩ := ry; exact PySem.W.ne_bytes (fin_bl I q (congrArg not dec_byt))
    | _ => exact absurd (show false = true from hs) Bool.false_ne_true
  | _ => cases y <;> exact absurd (show false = true from hs) Bool.false_ne_true
theorem op_lt : OpR X (compareOp .Lt) (rI0 fun i j => .bl (decide (i < j))) := opB0 fun _ _ _ _ _ _ _ q => lt_int q
theorem op_le : OpR X (compareOp .LtE) (rI0 fun i j => .bl (decide (i ≤ j))) := opB0 fun _ _ _ _ _ _ _ q => le_int q
theorem op_gt : OpR X (compareOp .Gt) (rI0 fun i j => .bl (decide (j < i))) := opB0 fun _ _ _ _ _ _ _ q => gt_int q
theorem op_ge : OpR X (compareOp .GtE) (rI0 fun i j => .bl (decide (j ≤ i))) := opB0 fun _ _ _ _ _ _ _ q => ge_int q
theorem op_isN : OpR X (compareOp .Is) (fun x y H Q => y = .non ∧ Q (.bl (decide (x = .non))) H) := by
  intro pins s σ H x y v u Q I rx ry h
  obtain ⟨rfl, q⟩ := h
  cases ry
  refine is_none_gen (fin_bl I q ?_)
  cases x <;> first
    | (cases rx; rfl)
    | (obtain ⟨t, rfl⟩ := rx; rfl)
theorem op_notN : OpR X (compareOp .IsNot) (fun x y H Q => y = .non ∧ Q (.bl (!decide (x = .non))) H) := by
  intro pins s σ H x y v u Q I rx ry h
  obtain ⟨rfl, q⟩ := h
  cases ry
  refine isnot_none_gen (fin_bl I q ?_)
  cases x <;> first
    | (cases rx; rfl)
    | (obtain ⟨t, rfl⟩ := rx; rfl)
theorem nomark (b : Expr) {op : CmpOp} (h : op ≠ .In := by decide) (h2 : op ≠ .NotIn := by decide) : behindInMarks op b = false := by
  have e1 : (op == CmpOp.In) = false := by cases op <;> first | rfl | exact absurd rfl h
  have e2 : (op == CmpOp.NotIn) = false := by cases op <;> first | rfl | exact absurd rfl h2
  cases b <;> simp [behindInMarks, e1, e2]
theorem pe_cmpR {op : CmpOp} {r : R2} (ho : OpR X (compareOp op) r) (ha : PE X a ta) (hb : PE X b tb) (hm : behindInMarks op b = false) : PE X (.Compare a [op] [b] pos) (tOp r ta tb) := by
  intro pins s σ H Q I h
  exact wpAny_Compare1 (binT ha hb I h fun v u s2 x y H2 I2 rx ry q => ho pins s2 σ H2 x y v u Q I2 rx ry q) hm
def tTest (t : TE) : TT := fun σ H Q => t σ H fun x H' => ∃ k, x = .bl k ∧ Q k H'
theorem pt_cmpR {op : CmpOp} {r : R2} (ho : OpR X (compareOp op) r) (ha : PE X a ta) (hb : PE X b tb) (hm : behindInMarks op b = false) : PT X (.Compare a [op] [b] pos) (tTest (tOp r ta tb)) := by
  intro pins s σ H Q I h
  refine wpAny_isTrue_Compare1 (thn (ha pins s σ H _ I h) fun v s1 ⟨x, H1, I1, r1, q1⟩ => thn (hb pins s1 σ H1 _ I1 q1) fun u s2 ⟨y, H2, I2, r2, q2⟩ =>
    thn (ho pins s2 σ H2 x y v u _ I2 r1 r2 q2) fun c s3 ⟨z, H3, I3, r3, k, e, q3⟩ => ?_) hm
  subst e
  cases r3
  exact wpAny_truthy_bool ⟨H3, I3, q3⟩
def tChain (r r' : R2) (ta tb tc : TE) : TE := fun σ H Q => ta σ H fun x H1 => tb σ H1 fun y H2 => r x y H2 fun z H3 => ∃ k, z = .bl k ∧
  (if k = true then tc σ H3 fun w' H4 => r' y w' H4 Q else Q (.bl false) H3)
theorem pt_chain {op op' : CmpOp} {r r' : R2} (ho : OpR X (compareOp op) r) (ho' : OpR X (compareOp op') r') (ha : PE X a ta) (hb : PE X b tb) (hc : PE X c tc)
    (hm : lastMarks [op, op'] [b, c] = false := by with_unfolding_all rfl) : PT X (.Compare a [op, op'] [b, c] pos) (tTest (tChain r r' ta tb tc)) := by
  intro pins s σ H Q I h
  refine isTrue_chain (thn (ha pins s σ H _ I h) fun v s1 ⟨x, H1, I1, r1, q1⟩ => test_link (thn (hb pins s1 σ H1 _ I1 q1) fun u s2 ⟨y, H2, I2, r2, q2⟩ =>
    thn (ho pins s2 σ H2 x y v u _ I2 r1 r2 q2) fun d s3 ⟨z, H3, I3, r3, k, e, q3⟩ => ?_)) hm
  subst e
  cases r3
  refine wpAny_truthy_bool ?_
  cases k with
  | false =>
    obtain ⟨k', e', q'⟩ := q3
    cases e'
    exact ite_ff ⟨H3, I3, q'⟩
  | true =>
    refine ite_tt (test_last (thn (hc pins s3 σ H3 _ I3 q3) fun w' s4 ⟨z', H4, I4, r4, q4⟩ => thn (ho' pins s4 σ H4 y z' u w' _ I4 r2 r4 q4) fun d' s5 ⟨z2, H5, I5, r5, k2, e2, q5⟩ => ?_))
    subst e2
    cases r5
    exact wpAny_truthy_bool ⟨H5, I5, q5⟩
theorem line63 : (sizeLine : Nat) < 2 ^ 63 := by rw [sizeLine_eq]; decide
theorem vals1 {x : V} {us : List Value} (r : Vals [x] us) : ∃ u, us = [u] ∧ RelV x u := by
  cases r with
  | cons r1 r2 => cases r2; exact ⟨_, rfl, r1⟩
theorem vals2 {x y : V} {us : List Value} (r : Vals [x, y] us) : ∃ u w', us = [u, w'] ∧ RelV x u ∧ RelV y w' := by
  cases r with
  | cons r1 r2 =>
    cases r2 with
    | cons r3 r4 => cases r4; exact ⟨_, _, rfl, r1, r3⟩
theorem call_max2 (hc : X.calm = true) : CallR X (.builtin "max") (fun xs H Q => ∃ i j, xs = [.int i, .int j] ∧ Q (.int (if j > i then j else i)) H) := by
  intro pins s σ H xs us Q I r h
  obtain ⟨i, j, rfl, q⟩ := h
  obtain ⟨u, w', rfl, ⟨t, rfl⟩, ⟨t', rfl⟩⟩ := vals2 r
  refine max_two_ints (I.ok.hd hc) fun h' tk k => ⟨_, H, I.kept k, ?_, q⟩
  by_cases hj : j > i
  · rw [if_pos hj, if_pos hj]; exact ⟨_, rfl⟩
  · rw [if_neg hj, if_neg hj]; exact ⟨_, rfl⟩
theorem call_min2 (hc : X.calm = true) : CallR X (.builtin "min") (fun xs H Q => ∃ i j, xs = [.int i, .int j] ∧ Q (.int (if j < i then j else i)) H) := by
  intro pins s σ H xs us Q I r h
  obtain ⟨i, j, rfl, q⟩ := h
  obtain ⟨u, w', rfl, ⟨t, rfl⟩, ⟨t', rfl⟩⟩ := vals2 r
  refine min_two_ints (I.ok.hd hc) fun h' tk k => ⟨_, H, I.kept k, ?_, q⟩
  by_cases hj : j < i
  · rw [if_pos hj, if_pos hj]; exact ⟨_, rfl⟩
  · rw [if_neg hj, if_neg hj]; exact ⟨_, rfl⟩
end
end L2
namespace L2
open PySem PySem.Spec PyProof.Rows
structure ObjM (h : Heap) (x dx C : Addr) (mA : Str → Option Value) : Prop where
  obj : h.get? x = some (PySem.W.instObj C dx)
  ns : h.Ns1 dx mA
  ne : dx ≠ x
theorem lookIn_ns {h : Heap} {dx : Addr} {mA : Str → Option Value} (n : h.Ns1 dx mA) : ∃ od, h.get? dx = some od ∧ ∀ name, PySem.W.lookIn name od = some (mA name) := by
  obtain ⟨o, es, ep, ho, hd, hk, _, hm⟩ := n
  refine ⟨o, ho, fun name => ?_⟩
  have e := hm name
  unfold nsFind findBy at e
  rw [← Array.find?_toList] at e
  unfold PySem.W.lookIn
  rw [hd]
  dsimp only
  split
  · rename_i y q
    rw [q] at e
    exact congrArg some e
  · rename_i q
    rw [q] at e
    have a : es.toList.any (·.refKey) = false := by
      rw [List.any_eq_false]
      intro y hy
      obtain ⟨z, t, hkey⟩ := hk y (Array.mem_toList_iff.mp hy)
      simp [DictEntry.refKey, hkey]
    have a' : ¬ es.toList.any (·.refKey) = true := by rw [a]; exact Bool.false_ne_true
    rw [if_neg a']
    exact congrArg some e
theorem ObjM.look {h : Heap} {x dx C : Addr} {mA : Str → Option Value} (I : ObjM h x dx C mA) : ∃ od, PySem.W.InstAt h x (PySem.W.instObj C dx) C (some od) ∧ ∀ name, PySem.W.lookIn name od = some (mA name) :=
  let ⟨od, ho, hl⟩ := lookIn_ns I.ns
  ⟨od, ⟨I.obj, rfl, rfl, ho⟩, hl⟩
section
variable {prog : Program} {w : World} {A : Around} {E : Value → Shared → Prop} {s : Shared} {K : PySem.W.Frag} {x dx C f : Addr} {mA : Str → Option Value} {name : Str} {v : Value}
theorem get_map {expr : Bool} {Q : Value → Shared → Prop} (X : K.In s.heap) (I : ObjM s.heap x dx C mA) (hg : PySem.W.plainGet K C name = true) (hh : PySem.W.hasDictIn K C = true)
    (ha : PySem.W.findIn K (.ref C) name = some none) (hv : mA name = some v) (hv' : PySem.W.handedIn v = true) (h : Q v { s with toks := s.toks + 1 }) :
    wpAny (model prog w) A (getAttr (.ref x) name expr) Q E s := by
  obtain ⟨od, J, hl⟩ := I.look
  exact PySem.W.get_value X J (PySem.W.plainGet_of hg).1 (PySem.W.findObj_own hh ha rfl (by rw [hl, hv])) hv' h
theorem get_meth {pl : Sem Bool} {Q : Value × List Value → Shared → Prop} (X : K.In s.heap) (I : ObjM s.heap x dx C mA) (hg : PySem.W.plainGet K C name = true)
    (hf : PySem.W.findIn K (.ref C) name = some (some (.ref f))) (ht : PySem.W.isFn K (.ref f) = true) (hv : mA name = none) (h : Q (.ref f, [.ref x]) s) :
    wpAny (model prog w) A (getMethod (.ref x) name pl) Q E s := by
  obtain ⟨od, J, hl⟩ := I.look
  exact PySem.W.method_fn X J (PySem.W.plainGet_of hg).1 (PySem.W.plainGet_of hg).2 hf (beq_iff_eq.mp ht) (by show (PySem.W.lookIn name od).map (·.isSome) = some false; rw [hl, hv]; rfl) h
theorem set_map {ns : List Str} {Q : Unit → Shared → Prop} (X : K.In s.heap) (I : ObjM s.heap x dx C mA)
    (hs : PySem.W.findIn K (.ref C) "__setattr__" = some (some (.builtin "object.__setattr__"))) (hp : PySem.W.plainOver K C = true) (ht : PySem.W.takerIn K C name = some none) (hh : PySem.W.hasDictIn K C = true)
    (hw : PySem.Within mA ns) (hsz : ns.length ≤ sizeLine)
    (h : ∀ h', ObjM h' x dx C (fun y => if y = name then some v else mA y) → Heap.SameBut dx s.heap h' → Q () { s with heap := h', toks := s.toks + 2 }) :
    wpAny (model prog w) A (setAttr (.ref x) name v) Q E s := by
  obtain ⟨od, J, hl⟩ := I.look
  refine PySem.W.set_plain X J hs (PySem.W.osa_open (s := { s with toks := s.toks + 1 }) (r := none) X J hp ht fun b => ?_)
  obtain ⟨cd, hc, hd'⟩ := PySem.W.any_some hh
  have hx : s.heap.get? x = some ⟨.ref C, some dx, .plain, #[]⟩ := I.obj
  refine wpAny_bind (wpAny_pure (wpAny_bind (wpAny_bind (wpAny_loadPart hx (wpAny_bind (PySem.W.Looks.here (s := { s with toks := s.toks + 1 }) (PySem.W.looks_clsIn X hc) ?_))))))
  rw [hd']
  refine wpAny_pure (a := some dx) (wpAny_bind (wpAny_pure (wpAny_bind ?_)))
  refine wpAny_nsSet1 (s := { s with toks := s.toks + 1 }) I.ns fun h' hn2 hs2 => ?_
  obtain ⟨oD, esD, epD, hoD, hdD, hcD⟩ := hn2.count (PySem.Within.cons name v hw)
  refine wpAny_bind (wpAny_lookBehind hoD (by rw [hdD]; exact pastItsLine_dict (Nat.le_trans hcD (by rw [List.length_cons]; omega))) ?_)
  exact wpAny_pure (h _ ⟨(hs2.2 _ (Ne.symm I.ne)).trans I.obj, hn2, I.ne⟩ hs2)
theorem make_map {R : Result → Shared → Prop} {vs : List Value} {kw : List (Str × Value)} (X : K.In s.heap) (hm : PySem.W.makesIn K C = true)
    (hi : PySem.W.findIn K (.ref C) "__init__" = some (some (.ref f))) (hf : PySem.W.typeIn K (.ref f) = some (.type "function"))
    (h : codeAny (model prog w) (A.under (.builtin "type.__call__" ⟨.ref C :: vs, kw⟩)) (.call (.ref f) ⟨.ref (s.heap.objs.size + 1) :: vs, kw⟩) (PySem.W.InitBack (s.heap.objs.size + 1) R)
      { s with heap := (s.heap.push PySem.W.emptyDict).push (PySem.W.instObj C s.heap.objs.size) }) :
    codeAny (model prog w) A (.call (.ref C) ⟨vs, kw⟩) R s := by
  obtain ⟨hh, g, d, t, os⟩ := s
  exact PySem.W.make_core (PySem.W.makes_of X hm) (PySem.W.looks_findIn X hi) (fun self => PySem.W.bind_fn X self hf) (.inl rfl) h
end
def putF (f : Str) (v : V) : List (Str × V) → List (Str × V)
  | [] => [(f, v)]
  | (g, x) :: r => if g = f then (g, v) :: r else (g, x) :: putF f v r
theorem lookup_putF (f g : Str) (v : V) : ∀ fs : List (Str × V), (putF f v fs).lookup g = if g = f then some v else fs.lookup g
  | [] => by
    show List.lookup g [(f, v)] = _
    by_cases h : g = f
    · have hb : (g == f) = true := beq_iff_eq.mpr h
      simp only [List.lookup, hb, if_pos h]
    · have hb : (g == f) = false := beq_eq_false_iff_ne.mpr h
      simp only [List.lookup, hb, if_neg h]
  | (k, x) :: r => by
    have ih := lookup_putF f g v r
    rw [show putF f v ((k, x) :: r) = (if k = f then (k, v) :: r else (k, x) :: putF f v r) from rfl]
    by_cases hk : k = f
    · rw [if_pos hk]
      by_cases h : g = k
      · have hb : (g == k) = true := beq_iff_eq.mpr h
        simp only [List.lookup, hb, if_pos (h.trans hk)]
      · have hb : (g == k) = false := beq_eq_false_iff_ne.mpr h
        simp only [List.lookup, hb, if_neg (fun e : g = f => h (e.trans hk.symm))]
    · rw [if_neg hk]
      by_cases h : g = k
      · have hb : (g == k) = true := beq_iff_eq.mpr h
        simp only [List.lookup, hb, if_neg (fun e : g = f => hk (h.symm.trans e))]
      · have hb : (g == k) = false := beq_eq_false_iff_ne.mpr h
        simp only [List.lookup, hb]
        exact ih
theorem keys_putF (f : Str) (v : V) : ∀ fs : List (Str × V), f ∈ (putF f v fs).map (·.1) ∧ ∀ g, g ∈ fs.map (·.1) → g ∈ (putF f v fs).map (·.1)
  | [] => ⟨by simp [putF], fun g h => by simp at h⟩
  | (k, x) :: r => by
    obtain ⟨i1, i2⟩ := keys_putF f v r
    rw [show putF f v ((k, x) :: r) = (if k = f then (k, v) :: r else (k, x) :: putF f v r) from rfl]
    by_cases hk : k = f
    · rw [if_pos hk]
      subst hk
      exact ⟨by simp, fun g h => by simpa using h⟩
    · rw [if_neg hk]
      refine ⟨?_, fun g h => ?_⟩
      · rw [List.map_cons]
        exact List.mem_cons_of_mem _ i1
      · rw [List.map_cons] at h ⊢
        rcases List.mem_cons.mp h with e | e
        · exact List.mem_cons.mpr (.inl e)
        · exact List.mem_cons_of_mem _ (i2 g e)
theorem length_putF (f : Str) (v : V) : ∀ fs : List (Str × V), (putF f v fs).length ≤ fs.length + 1
  | [] => by simp [putF]
  | (k, x) :: r => by
    have ih := length_putF f v r
    rw [show putF f v ((k, x) :: r) = (if k = f then (k, v) :: r else (k, x) :: putF f v r) from rfl]
    by_cases hk : k = f
    · rw [if_pos hk, List.length_cons, List.length_cons]; omega
    · rw [if_neg hk, List.length_cons, List.length_cons]; omega
theorem RelO.some_of {v : V} {o : Option Value} (r : RelO (some v) o) : ∃ u, o = some u ∧ RelV v u := by
  cases o with
  | none => exact (show False from r).elim
  | some u => exact ⟨u, rfl, r⟩
theorem RelO.none_of {o : Option Value} (r : RelO none o) : o = none := by
  cases o with
  | none => rfl
  | some u => exact (show False from r).elim
theorem handed_of {v : V} {u : Value} (r : RelV v u) : PySem.W.handedIn u = true := by
  cases v with
  | non => cases (show u = Value.none from r); rfl
  | bl b => cases (show u = Value.bool b from r); rfl
  | int i => obtain ⟨t, e⟩ := (show ∃ t, u = Value.int i t from r); cases e; rfl
  | str x => obtain ⟨t, e⟩ := (show ∃ t, u = Value.str x t from r); cases e; rfl
  | byt b => obtain ⟨t, e⟩ := (show ∃ t, u = Value.bytes b t from r); cases e; rfl
  | flt b => obtain ⟨t, e⟩ := (show ∃ t, u = Value.float b t from r); cases e; rfl
  | ref a => cases (show u = Value.ref a from r); rfl
  | ty n => cases (show u = Value.type n from r); rfl
section
variable {P : Program} {w : World} {H H' : Hp} {h h' : Heap} {a C dx : Addr} {fs fs' : List (Str × V)}
theorem ins_get (hok : HOk P w H h) (e : H a = some (.ins C dx fs)) : ∃ mA, ObjM h a dx C mA ∧ (∀ f, RelO (fs.lookup f) (mA f)) ∧ PySem.Within mA (fs.map (·.1)) ∧ fs.length ≤ 1000 ∧ H dx = some (.own a) := by
  obtain ⟨d, z, ne, ob, mA, n, r, q⟩ := (show ObjOk P w H h a (.ins C dx fs) from hok a _ e)
  exact ⟨mA, ⟨ob, n, ne⟩, r, q, z, d⟩
end
structure Cls (K : PySem.W.Frag) (C : Addr) : Prop where
  pg : PySem.W.plainGet K C Str.empty = true
  hd : PySem.W.hasDictIn K C = true
  po : PySem.W.plainOver K C = true
  sa : PySem.W.findIn K (.ref C) "__setattr__" = some (some (.builtin "object.__setattr__"))
theorem Cls.get {K : PySem.W.Frag} {C : Addr} (c : Cls K C) (f : Str) : PySem.W.plainGet K C f = true := c.pg
def NoAttr (K : PySem.W.Frag) (C : Addr) (f : Str) : Prop := PySem.W.findIn K (.ref C) f = some none
theorem NoAttr.taker {K : PySem.W.Frag} {C : Addr} {f : Str} (n : NoAttr K C f) : PySem.W.takerIn K C f = some none := by
  unfold PySem.W.takerIn
  rw [show PySem.W.findIn K (.ref C) f = some none from n]
  rfl
structure Meth (K : PySem.W.Frag) (C : Addr) (m : Str) (f : Addr) : Prop where
  at_ : PySem.W.findIn K (.ref C) m = some (some (.ref f))
  fn : PySem.W.isFn K (.ref f) = true
  kp : PySem.W.keepIn K (.ref f) = true
section
variable {X : Cx} {pins : List (Addr × Obj)} {σ : St} {H : Hp} {s : Shared} {a C dx : Addr} {fs : List (Str × V)} {f : Str} {v : V} {A : Around} {E : Value → Shared → Prop}
theorem getattr_ok {b : Bool} {Q : Value → Shared → Prop} (I : Inv X pins σ H s) (e : H a = some (.ins C dx fs)) (c : Cls X.K C) (n : NoAttr X.K C f) (l : fs.lookup f = some v)
    (h : ∀ u s', Inv X pins σ H s' → RelV v u → Q u s') : wpAny (model X.prog X.w) A (getAttr (.ref a) f b) Q E s := by
  obtain ⟨mA, O, r, _, _, _⟩ := ins_get I.hok e
  obtain ⟨u, hu, ru⟩ := RelO.some_of (v := v) (o := mA f) (by rw [← l]; exact r f)
  exact get_map I.kIn O (c.get f) c.hd n hu (handed_of ru) (h u _ (I.tok _) ru)
theorem getmeth_ok {m : Str} {g : Addr} {pl : Sem Bool} {Q : Value × List Value → Shared → Prop} (I : Inv X pins σ H s) (e : H a = some (.ins C dx fs)) (c : Cls X.K C) (k : Meth X.K C m g) (l : fs.lookup m = none)
    (h : Q (.ref g, [.ref a]) s) : wpAny (model X.prog X.w) A (getMethod (.ref a) m pl) Q E s := by
  obtain ⟨mA, O, r, _, _, _⟩ := ins_get I.hok e
  have hn : mA m = none := RelO.none_of (by rw [← l]; exact r m)
  exact get_meth I.kIn O (c.get m) k.at_ k.fn hn h
theorem setattr_ok {y : V} {u : Value} {Q : Unit → Shared → Prop} (I : Inv X pins σ H s) (e : H a = some (.ins C dx fs)) (c : Cls X.K C) (n : NoAttr X.K C f) (hl : fs.length < 1000) (ry : RelV y u)
    (h : ∀ s', Inv X pins σ (upd H a (.ins C dx (putF f y fs))) s' → Q () s') : wpAny (model X.prog X.w) A (setAttr (.ref a) f u) Q E s := by
  obtain ⟨mA, O, r, wi, _, ho⟩ := ins_get I.hok e
  have hz : (fs.map (·.1)).length ≤ sizeLine := by rw [List.length_map, sizeLine_eq]; omega
  refine set_map I.kIn O c.sa c.po n.taker c.hd wi hz fun h' O' sb => h _ ?_
  have hd : ∃ o, h'.get? dx = some o := let ⟨o, _, _, e', _⟩ := O'.ns; ⟨o, e'⟩
  refine I.write (x := a) (e := dx) (by rw [e]; exact True.intro) (.inr ho) (fun b q hb z => (sb.2 b hb).trans z) hd ?_
  refine ⟨by rw [upd_ne O.ne]; exact ho, ?_, O.ne, O'.obj, _, O'.ns, fun g => ?_, fun g hg => ?_⟩
  · have := length_putF f y fs; omega
  · show RelO ((putF f y fs).lookup g) (if g = f then some u else mA g)
    rw [lookup_putF]
    by_cases q : g = f
    · rw [if_pos q, if_pos q]; exact ry
    · rw [if_neg q, if_neg q]; exact r g
  · by_cases q : g = f
    · rw [q]; exact (keys_putF f y fs).1
    · refine (keys_putF f y fs).2 g (wi g fun z => hg ?_)
      show (if g = f then some u else mA g) = none
      rw [if_neg q]; exact z
theorem Inv.made (I : Inv X pins σ H s) : Inv X pins σ (upd (upd H s.heap.objs.size (.own (s.heap.objs.size + 1))) (s.heap.objs.size + 1) (.ins C s.heap.objs.size []))
    { s with heap := (s.heap.push PySem.W.emptyDict).push (PySem.W.instObj C s.heap.objs.size) } := by
  have e1 : (s.heap.push PySem.W.emptyDict).get? s.heap.objs.size = some PySem.W.emptyDict := Heap.get?_push_size s.heap rfl
  have e2 : ((s.heap.push PySem.W.emptyDict).push (PySem.W.instObj C s.heap.objs.size)).get? (s.heap.objs.size + 1) = some (PySem.W.instObj C s.heap.objs.size) := by
    have := Heap.get?_push_size (s.heap.push PySem.W.emptyDict) (o := PySem.W.instObj C s.heap.objs.size) rfl
    rwa [Heap.size_push] at this
  have e3 : (s.heap.push PySem.W.emptyDict).Ns s.heap.objs.size (fun _ => none) := ⟨PySem.W.emptyDict, #[], _, e1, rfl, (fun e he => absurd he (by simp)), fun _ => rfl⟩
  have I1 := I.laid (a := s.heap.objs.size) (o := .own (s.heap.objs.size + 1)) (h' := s.heap.push PySem.W.emptyDict) (t' := s.toks) (fun b u q => Heap.get?_push_of_some _ q) (Nat.le_refl _) ⟨_, e1⟩
  refine I1.laid (a := s.heap.objs.size + 1) (o := .ins C s.heap.objs.size []) (t' := s.toks) (fun b u q => Heap.get?_push_of_some _ q) (Nat.le_of_eq (Heap.size_push _ _)) ?_
  have ne : s.heap.objs.size ≠ s.heap.objs.size + 1 := Nat.ne_of_lt (Nat.lt_succ_self _)
  refine ⟨by rw [upd_ne ne, upd_same], Nat.zero_le _, ne, e2, fun _ => none, (Heap.Ns1.of_empty e3).at fun o q => Heap.get?_push_of_some _ q, fun _ => True.intro, fun y hy => absurd rfl hy⟩
theorem attr_of {prog : Program} {w : World} {env : Env} {e : Expr} {f : Str} {pos : Pos} {s : Shared} {Q : Value → Shared → Prop} (hb : attributeBase e f env (eval e env) = eval e env)
    (h : wpAny (model prog w) A (eval e env) (fun o s₁ => wpAny (model prog w) A (getAttr o f true) Q E s₁) E s) : wpAny (model prog w) A (eval (.Attribute e f pos) env) Q E s :=
  Attribute_any_ h (by rw [arm_eval_Attribute, hb])
end
def tFld (K : PySem.W.Frag) (ta : TE) (f : Str) : TE := fun σ H Q => ta σ H fun x H1 => ∃ a C dx fs v, x = .ref a ∧ H1 a = some (.ins C dx fs) ∧ Cls K C ∧ NoAttr K C f ∧ fs.lookup f = some v ∧ Q v H1
def sFld (K : PySem.W.Frag) (ta tv : TE) (f : Str) : TS := fun D σ H => tv σ H fun y H1 => ta σ H1 fun x H2 => ∃ a C dx fs, x = .ref a ∧ H2 a = some (.ins C dx fs) ∧ Cls K C ∧ NoAttr K C f ∧ fs.length < 1000 ∧
  D.nx σ (upd H2 a (.ins C dx (putF f y fs)))
section
variable {X : Cx} {o e value : Expr} {f : Str} {pos pos' tpos : Pos} {ta tv : TE}
theorem pe_fld (he : PE X e ta) (hb : attributeBase e f X.env (eval e X.env) = eval e X.env) : PE X (.Attribute e f pos) (tFld X.K ta f) := by
  intro pins s σ H Q I h
  refine attr_of hb (thn (he pins s σ H _ I h) fun u s1 ⟨x, H1, I1, rx, a, C, dx, fs, v, ex, ea, c, n, l, q⟩ => ?_)
  subst ex
  obtain rfl : u = Value.ref a := rx
  exact getattr_ok I1 ea c n l fun u' s2 I2 ru => ⟨v, H1, I2, ru, q⟩
theorem ps_fld (ha : PE X o ta) (hv : PE X value tv) (hs : swapsWith value (some (.Attribute o f pos')) pos.line X.env = pure false) : PS X (.Assign [.Attribute o f pos'] value pos) (sFld X.K ta tv f) := by
  intro pins s σ H D I h
  refine plainObj_wpAny_Assign_Attribute (thn (hv pins s σ H _ I h) fun u s1 ⟨y, H1, I1, ry, q⟩ => thn (ha pins s1 σ H1 _ I1 q) fun ov s2 ⟨x, H2, I2, rx, a, C, dx, fs, ex, ea, c, n, l, q2⟩ => ?_) hs
  subst ex
  obtain rfl : ov = Value.ref a := rx
  exact setattr_ok I2 ea c n l ry fun s3 I3 => ⟨σ, _, I3, q2⟩
end
section
variable {X : Cx} {pins : List (Addr × Obj)} {σ : St} {H : Hp} {s : Shared} {A : Around} {E : Value → Shared → Prop} {Q : Value → Shared → Prop} {c : Value} {b : Bool}
end
end L2
namespace L2
open PySem PySem.Spec PyProof.Rows
structure Room (k : Nat) (A : Around) : Prop where
  hd : A.handled = none
  dp : A.depth + 3 * k + 5 < recursionLimit
  un : A.units + 16 * k + 200 < cLine
  gd : A.guards = some []
theorem Room.mono {j k : Nat} {A : Around} (r : Room k A) (h : j ≤ k) : Room j A := ⟨r.hd, by have := r.dp; omega, by have := r.un; omega, r.gd⟩
theorem Room.deeper {k : Nat} {A : Around} (r : Room (k + 1) A) (env : Env) : Room k (A.deeper env) :=
  ⟨r.hd, by have := r.dp; show A.depth + 1 + 3 * k + 5 < _; omega, by have := r.un; show A.units + 3 + 16 * k + 200 < _; omega, r.gd⟩
theorem Room.in1 {k : Nat} {A : Around} (r : Room (k + 1) A) : Room k A.in1 :=
  ⟨r.hd, by have := r.dp; show A.depth + 3 * k + 5 < _; omega, by have := r.un; show A.units + 1 + 16 * k + 200 < _; omega, r.gd⟩
theorem make_depth {A : Around} {C : Addr} {us : List Value} {kw : List (Str × Value)} : (A.under (.builtin "type.__call__" ⟨.ref C :: us, kw⟩)).depth = A.depth + 1 := by
  first | rfl | simp [Around.under, Code.weight, Code.isCreation, Code.isGuard, Code.isCaller, Code.frames, Code.isFrame, guardIds]
theorem make_units {A : Around} {C : Addr} {us : List Value} {kw : List (Str × Value)} : (A.under (.builtin "type.__call__" ⟨.ref C :: us, kw⟩)).units = A.units + 1 := by
  first | rfl | simp [Around.under, Code.cUnits, Code.frames, Code.isFrame]
theorem Room.make {k : Nat} {A : Around} (r : Room (k + 1) A) (C : Addr) (us : List Value) (kw : List (Str × Value)) : Room k (A.under (.builtin "type.__call__" ⟨.ref C :: us, kw⟩)) :=
  ⟨r.hd, by have := r.dp; rw [make_depth]; omega, by have := r.un; rw [make_units]; omega, by first | (simp [Around.under, Code.guards, Code.isGuard, guardIds, pushGuards, r.gd]; done) | (unfold Around.under; simp [Code.guards, Code.isGuard, guardIds, pushGuards, r.gd]; done) | (unfold Around.under; dsimp only; rw [r.gd]; rfl)⟩
theorem Room.depth {k : Nat} {A : Around} (r : Room k A) : A.depth < recursionLimit := by have := r.dp; omega
theorem Room.units {k : Nat} {A : Around} (r : Room k A) : A.units + 64 < cLine := by have := r.un; omega
theorem Room.units0 {k : Nat} {A : Around} (r : Room k A) : A.units < cLine := by have := r.un; omega
def tNil : TA := fun _ H Q => Q [] H
def tCons (ta : TE) (tr : TA) : TA := fun σ H Q => ta σ H fun x H1 => tr σ H1 fun xs H2 => Q (x :: xs) H2
section
variable {X : Cx} {e : Expr} {es : List Expr} {te : TE} {t : TA} {pos : Pos}
theorem pa_nil : PA X [] tNil := fun _ _ _ _ H Q I h => Calls.spliced_nil ⟨[], H, I, .nil, h⟩
theorem pa_cons (ha : PE X e te) (hr : PA X es t) (hs : starEach (e :: es) X.env = (false, eval e X.env) :: starEach es X.env := by rfl) : PA X (e :: es) (tCons te t) := by
  intro pos pins s σ H Q I h
  rw [hs]
  show wpAny _ _ (spliced ((false, eval e X.env) :: backTo pos (starEach es X.env))) _ _ s
  refine Calls.spliced_cons (thn (ha pins s σ H _ I h) fun u s1 ⟨x, H1, I1, r1, q1⟩ => ?_)
  exact thn (hr pos pins s1 σ H1 _ I1 q1) fun us s2 ⟨xs, H2, I2, r2, q2⟩ => ⟨x :: xs, H2, I2, .cons r1 r2, q2⟩
def tTup (t : TA) : TE := fun σ H Q => t σ H fun xs H1 => xs.length ≤ sizeLine ∧ ∀ p, H1 p = none → Q (.ref p) (upd H1 p (.tup xs))
def tLst (t : TA) : TE := fun σ H Q => t σ H fun xs H1 => xs.length ≤ sizeLine ∧ ∀ p, H1 p = none → Q (.ref p) (upd H1 p (.lst xs))
theorem pe_tup {x1} (h : PA X es t) : PE X (.Tuple es x1 pos) (tTup t) := by
  intro pins s σ H Q I hq
  refine wpAny_Tuple_spliced (thn (h pos pins s σ H _ I hq) fun us s1 ⟨xs, H1, I1, r, z, q⟩ => ⟨by rw [← r.length]; exact z, ?_⟩)
  have hf : H1 s1.heap.objs.size = none := I1.hok.fresh (Nat.le_refl _)
  refine ⟨.ref s1.heap.objs.size, upd H1 s1.heap.objs.size (.tup xs), I1.laid (t' := s1.toks) (fun b u e => Heap.get?_push_of_some _ e) (Nat.le_refl _) ?_, rfl, q _ hf⟩
  exact ⟨z, us, r, ⟨_, Heap.get?_push_size _ rfl, rfl, _, rfl⟩⟩
theorem pe_lst (h : PA X es t) : PE X (.List es pos) (tLst t) := by
  intro pins s σ H Q I hq
  refine wpAny_List_spliced (thn (h pos pins s σ H _ I hq) fun us s1 ⟨xs, H1, I1, r, z, q⟩ => ⟨by rw [← r.length]; exact z, ?_⟩)
  have hf : H1 s1.heap.objs.size = none := I1.hok.fresh (Nat.le_refl _)
  refine ⟨.ref s1.heap.objs.size, upd H1 s1.heap.objs.size (.lst xs), I1.laid (t' := s1.toks) (fun b u e => Heap.get?_push_of_some _ e) (Nat.le_refl _) ?_, rfl, q _ hf⟩
  exact ⟨z, us, 0, r, Heap.get?_push_size _ rfl⟩
end
abbrev Sp := List V → Hp → VK → XK → Prop
abbrev CXT := List Env → Hp → Shared → XK → Value → Shared → Prop
structure Env0 (P : Program) (w : World) (K : PySem.W.Frag) (mg : Str → Option Value) (base : Heap) (A : Around) (outer : List Env) (s : Shared) (H : Hp) : Prop where
  frames : A.frames = some outer
  mod : Mod K mg base
  bs : ∀ b o, base.get? b = some o → s.heap.get? b = some o ∧ H b = none
  bsz : base.objs.size ≤ s.heap.objs.size
  funs : s.heap.FunFrames base outer
  frf : ∀ b ∈ frs outer, H b = none
  hok : HOk P w H s.heap
  bare : AllBare s.gens
def CE (outer : List Env) (P : Program) (w : World) (H : Hp) (s : Shared) (Q : VK) (u : Value) (s' : Shared) : Prop :=
  ∃ v H', s'.os = s.os ∧ AllBare s'.gens ∧ Un (frs outer) [] H H' s.heap s'.heap ∧ HOk P w H' s'.heap ∧ RelV v u ∧ Q v H'
def CR (CX : CXT) (outer : List Env) (P : Program) (w : World) (H : Hp) (s : Shared) (Q : VK) (E : XK) (r : Result) (s' : Shared) : Prop :=
  match r with
  | .ok (.ret u) => CE outer P w H s Q u s'
  | .ok _ => False
  | .error e => CX outer H s E e s'
structure FnOk (P : Program) (w : World) (K : PySem.W.Frag) (mg : Str → Option Value) (base : Heap) (CX : CXT) (k : Nat) (f : Addr) (fd : FuncData) (ps : List Str) (sp : Sp) : Prop where
  len : ∀ vs H Q E, sp vs H Q E → vs.length = ps.length
  run : ∀ (A : Around) (outer : List Env) (s : Shared) (H : Hp) (args : Args) (us : List Value) (vs : List V) (Q : VK) (E : XK), Room k A → Env0 P w K mg base A outer s H → BindsTo s fd args (ps.zip us) → Vals vs us → sp vs H Q E →
    codeAny (model P w) A (.call (.ref f) args) (CR CX outer P w H s Q E) s
theorem Env0.make {P : Program} {w : World} {K : PySem.W.Frag} {mg : Str → Option Value} {base : Heap} {A : Around} {outer : List Env} {s : Shared} {H : Hp} (e : Env0 P w K mg base A outer s H) (C : Addr) (us : List Value) (kw : List (Str × Value)) :
    Env0 P w K mg base (A.under (.builtin "type.__call__" ⟨.ref C :: us, kw⟩)) outer s H := ⟨by first | exact e.frames | (simpa [Around.under, Code.envs, Code.isFrame, pushEnvs] using e.frames), e.mod, e.bs, e.bsz, e.funs, e.frf, e.hok, e.bare⟩
theorem Env0.in1 {P : Program} {w : World} {K : PySem.W.Frag} {mg : Str → Option Value} {base : Heap} {A : Around} {outer : List Env} {s : Shared} {H : Hp} (e : Env0 P w K mg base A outer s H) :
    Env0 P w K mg base A.in1 outer s H := ⟨e.frames, e.mod, e.bs, e.bsz, e.funs, e.frf, e.hok, e.bare⟩
section
variable {X : Cx} {pins : List (Addr × Obj)} {σ : St} {H : Hp} {s s' : Shared}
theorem Inv.env0 (I : Inv X pins σ H s) : Env0 X.prog X.w X.K X.mg X.base X.A X.stack s H :=
  ⟨I.ok.frames, I.ok.mod, I.bs, Nat.le_trans I.ok.bsz I.sz, I.stack, I.stkFree, I.hok, I.bare⟩
theorem Inv.after {Q : VK} {u : Value} (I : Inv X pins σ H s) (h : CE X.stack X.prog X.w H s Q u s') : EP X pins σ Q u s' := by
  obtain ⟨v, H', os, bare, un, hok, r, q⟩ := h
  obtain ⟨hh, g, d, t, os'⟩ := s'
  obtain rfl : os' = s.os := os
  exact ⟨v, H', I.call (h' := hh) (g' := g) (d' := d) (t' := t) (ch := []) un hok bare (fun b z => absurd z (by simp)), r, q⟩
end
def tCall (sp : Sp) (dvs : List V) (E : XK) (t : TA) : TE := fun σ H Q => t σ H fun vs H1 => sp (vs ++ dvs) H1 Q E
def tMeth (C : Addr) (m : Str) (sp : Sp) (dvs : List V) (E : XK) (ta : TE) (t : TA) : TE := fun σ H Q => ta σ H fun x H1 => ∃ a dx fs, x = .ref a ∧ H1 a = some (.ins C dx fs) ∧ fs.lookup m = none ∧
  t σ H1 fun vs H2 => sp (x :: (vs ++ dvs)) H2 Q E
def tMake (C : Addr) (sp : Sp) (dvs : List V) (E : XK) (t : TA) : TE := fun σ H Q => t σ H fun vs H1 => ∀ x dx, H1 x = none → H1 dx = none → dx ≠ x →
  sp (.ref x :: (vs ++ dvs)) (upd (upd H1 dx (.own x)) x (.ins C dx [])) (fun v H2 => v = .non ∧ Q (.ref x) H2) E
def Binds (K : PySem.W.Frag) (fd : FuncData) (ps : List Str) (ds : List Value) : Prop :=
  ∀ (s : Shared) (us : List Value), K.In s.heap → (us ++ ds).length = ps.length → BindsTo s fd ⟨us, []⟩ (ps.zip (us ++ ds))
theorem Binds.all {K : PySem.W.Frag} {fd : FuncData} {ps : List Str} (h : ∀ us : List Value, us.length = ps.length → bindArgs fd ⟨us, []⟩ = pure (ps.zip us)) : Binds K fd ps [] := fun s us _ hl => by
  rw [List.append_nil] at hl ⊢
  exact .of_eq (h us hl)
def Passes (CX : CXT) (X : Cx) (E : XK) : Prop := ∀ (pins : List (Addr × Obj)) (σ : St) (H : Hp) (s : Shared) (e : Value) (s' : Shared), Inv X pins σ H s → CX X.stack H s E e s' → X.xe e s'
section
variable {X : Cx} {CX : CXT} {k : Nat} {f C : Addr} {fd : FuncData} {ps : List Str} {sp : Sp} {dvs : List V} {ds : List Value} {E : XK} {x m : Str} {p pos apos : Pos} {e o : Expr} {es : List Expr} {ta : TE} {t : TA}
theorem run_fn {pins : List (Addr × Obj)} {σ : St} {H : Hp} {s : Shared} {Q : VK} {us : List Value} {vs : List V} (F : FnOk X.prog X.w X.K X.mg X.base CX k f fd ps sp) (hr : Room k X.A) (hb : Binds X.K fd ps ds) (hd : Vals dvs ds) (hx : Passes CX X E)
    (I : Inv X pins σ H s) (r : Vals vs us) (h : sp (vs ++ dvs) H Q E) : wpAny (model X.prog X.w) X.A (call (.ref f) us) (EP X pins σ Q) X.xe s := by
  have r2 : Vals (vs ++ dvs) (us ++ ds) := r.append hd
  have hl : (us ++ ds).length = ps.length := by rw [← r2.length]; exact F.len _ _ _ _ h
  refine wpAny_call (codeAny_mono (F.run X.A X.stack s H ⟨us, []⟩ (us ++ ds) (vs ++ dvs) Q E hr I.env0 (hb s us I.kIn hl) r2 h) fun r s' hq => ?_)
  cases r with
  | error e => exact hx pins σ H s e s' I hq
  | ok fl =>
    cases fl with
    | ret u => exact I.after hq
    | next => exact False.elim hq
    | brk => exact False.elim hq
    | cont => exact False.elim hq
theorem pe_call (F : FnOk X.prog X.w X.K X.mg X.base CX k f fd ps sp) (hr : Room k X.A) (hg : Gl X x) (hm : X.mg x = some (.ref f)) (hk : PySem.W.keepIn X.K (.ref f) = true) (hb : Binds X.K fd ps ds) (hd : Vals dvs ds) (hx : Passes CX X E)
    (ha : PA X (e :: es) t) (hdb : (x == ("__debug__" : Str)) = false := by decide) (he : starEach (e :: es) X.env = (false, eval e X.env) :: starEach es X.env := by rfl) (hpl : (backTo pos (starEach es X.env)).any (·.1) = false := by rfl) :
    PE X (.Call (.Name x p) (e :: es) [] pos) (tCall sp dvs E t) := by
  intro pins s σ H Q I h
  refine wpAny_Call_Name_kw (ld_glob I hg hm ?_ hdb)
  refine PySem.W.callWith_K (h₀ := X.base) I.ok.mod.kin hk (thn (ha pos pins s σ H _ I h) fun us s1 ⟨vs, H1, I1, r, q⟩ => ⟨I1.kIn, ?_⟩) he hpl
  exact run_fn F hr hb hd hx I1 r q
theorem pe_meth {pl : Sem Bool} (he : PE X o ta) (c : Cls X.K C) (hm : Meth X.K C m f) (F : FnOk X.prog X.w X.K X.mg X.base CX k f fd ps sp) (hr : Room k X.A) (hb : Binds X.K fd ps ds) (hd : Vals dvs ds) (hx : Passes CX X E) (ha : PA X (e :: es) t)
    (hst : starEach (e :: es) X.env = (false, eval e X.env) :: starEach es X.env := by rfl) (hpl : (backTo pos (starEach es X.env)).any (·.1) = false := by rfl)
    (ht : eval (.Call (.Attribute o m apos) (e :: es) [] pos) X.env = (do
      let ov ← eval o X.env
      standAt apos.atName
      let (f, first) ← holding [ov] (getMethod ov m pl)
      callWith pos f first (backTo pos (starEach (e :: es) X.env)) (backToKw pos (keywordEach [] X.env))) := by rfl) :
    PE X (.Call (.Attribute o m apos) (e :: es) [] pos) (tMeth C m sp dvs E ta t) := by
  intro pins s σ H Q I h
  refine PySem.W.methodCall_KW (pl := pl) (thn (he pins s σ H _ I h) fun u s1 ⟨x, H1, I1, rx, a, dx, fs, ex, ea, l, q⟩ => ?_) ht
  subst ex
  obtain rfl : u = Value.ref a := rx
  refine getmeth_ok I1 ea c hm l ?_
  refine PySem.W.callWith_K (first := [.ref a]) (h₀ := X.base) I.ok.mod.kin hm.kp (thn (ha pos pins s1 σ H1 _ I1 q) fun us s2 ⟨vs, H2, I2, r, q2⟩ => ⟨I2.kIn, ?_⟩) hst hpl
  exact run_fn (us := .ref a :: us) (vs := .ref a :: vs) F hr hb hd hx I2 (.cons rfl r) q2
theorem pe_meth0 {pl : Sem Bool} (he : PE X o ta) (c : Cls X.K C) (hm : Meth X.K C m f) (F : FnOk X.prog X.w X.K X.mg X.base CX k f fd ps sp) (hr : Room k X.A) (hb : Binds X.K fd ps ds) (hd : Vals dvs ds) (hx : Passes CX X E)
    (ht : eval (.Call (.Attribute o m apos) [] [] pos) X.env = (do
      let ov ← eval o X.env
      standAt apos.atName
      let (f, first) ← holding [ov] (getMethod ov m pl)
      callWith pos f first (backTo pos (starEach [] X.env)) (backToKw pos (keywordEach [] X.env))) := by rfl) :
    PE X (.Call (.Attribute o m apos) [] [] pos) (tMeth C m sp dvs E ta tNil) := by
  intro pins s σ H Q I h
  refine PySem.W.methodCall_KW (pl := pl) (thn (he pins s σ H _ I h) fun u s1 ⟨x, H1, I1, rx, a, dx, fs, ex, ea, l, q⟩ => ?_) ht
  subst ex
  obtain rfl : u = Value.ref a := rx
  refine getmeth_ok I1 ea c hm l ?_
  exact PySem.W.callWith_K0 (first := [.ref a]) I1.kIn hm.kp (run_fn (us := [.ref a]) (vs := [.ref a]) F hr hb hd hx I1 (.cons rfl .nil) q)
structure Mk (K : PySem.W.Frag) (C f : Addr) : Prop where
  makes : PySem.W.makesIn K C = true
  init : PySem.W.findIn K (.ref C) "__init__" = some (some (.ref f))
  fn : PySem.W.isFn K (.ref f) = true
  kp : PySem.W.keepIn K (.ref C) = true
theorem run_make {pins : List (Addr × Obj)} {σ : St} {H : Hp} {s : Shared} {Q : VK} {us : List Value} {vs : List V} (M : Mk X.K C f) (F : FnOk X.prog X.w X.K X.mg X.base CX k f fd ps sp) (hr : Room (k + 1) X.A) (hb : Binds X.K fd ps ds) (hd : Vals dvs ds)
    (hx : Passes CX X E) (I : Inv X pins σ H s) (r : Vals vs us)
    (h : ∀ x dx, H x = none → H dx = none → dx ≠ x → sp (.ref x :: (vs ++ dvs)) (upd (upd H dx (.own x)) x (.ins C dx [])) (fun v H2 => v = .non ∧ Q (.ref x) H2) E) :
    wpAny (model X.prog X.w) X.A (call (.ref C) us) (EP X pins σ Q) X.xe s := by
  have hq := h (s.heap.objs.size + 1) s.heap.objs.size (I.hok.fresh (Nat.le_succ _)) (I.hok.fresh (Nat.le_refl _)) (Nat.ne_of_lt (Nat.lt_succ_self _))
  have I2 := Inv.made (C := C) I
  have r2 : Vals (V.ref (s.heap.objs.size + 1) :: (vs ++ dvs)) (Value.ref (s.heap.objs.size + 1) :: (us ++ ds)) := .cons rfl (r.append hd)
  have hl : (Value.ref (s.heap.objs.size + 1) :: us ++ ds).length = ps.length := by
    have e := r2.length
    rw [F.len _ _ _ _ hq] at e
    exact e.symm
  refine wpAny_call (make_map (f := f) I.kIn M.makes M.init (beq_iff_eq.mp M.fn) (codeAny_mono (F.run _ X.stack _ _ ⟨Value.ref (s.heap.objs.size + 1) :: us, []⟩ (Value.ref (s.heap.objs.size + 1) :: (us ++ ds)) _ _ E (hr.make C us [])
    (I2.env0.make C us []) (hb _ (Value.ref (s.heap.objs.size + 1) :: us) I2.kIn hl) r2 hq) fun r s' hq' => ?_))
  cases r with
  | error e => exact hx pins σ _ _ e s' I2 hq'
  | ok fl =>
    cases fl with
    | ret u =>
      obtain ⟨v, H', I3, rv, ev, q3⟩ := I2.after hq'
      subst ev
      exact ⟨rv, ⟨V.ref (s.heap.objs.size + 1), H', I3, rfl, q3⟩⟩
    | next => exact False.elim hq'
    | brk => exact False.elim hq'
    | cont => exact False.elim hq'
theorem pe_make (M : Mk X.K C f) (F : FnOk X.prog X.w X.K X.mg X.base CX k f fd ps sp) (hr : Room (k + 1) X.A) (hg : Gl X x) (hm : X.mg x = some (.ref C)) (hb : Binds X.K fd ps ds) (hd : Vals dvs ds) (hx : Passes CX X E)
    (ha : PA X (e :: es) t) (hdb : (x == ("__debug__" : Str)) = false := by decide) (he : starEach (e :: es) X.env = (false, eval e X.env) :: starEach es X.env := by rfl) (hpl : (backTo pos (starEach es X.env)).any (·.1) = false := by rfl) :
    PE X (.Call (.Name x p) (e :: es) [] pos) (tMake C sp dvs E t) := by
  intro pins s σ H Q I h
  refine wpAny_Call_Name_kw (ld_glob I hg hm ?_ hdb)
  refine PySem.W.callWith_K (h₀ := X.base) I.ok.mod.kin M.kp (thn (ha pos pins s σ H _ I h) fun us s1 ⟨vs, H1, I1, r, q⟩ => ⟨I1.kIn, ?_⟩) he hpl
  exact run_make M F hr hb hd hx I1 r q
theorem pe_make0 (M : Mk X.K C f) (F : FnOk X.prog X.w X.K X.mg X.base CX k f fd ps sp) (hr : Room (k + 1) X.A) (hg : Gl X x) (hm : X.mg x = some (.ref C)) (hb : Binds X.K fd ps ds) (hd : Vals dvs ds) (hx : Passes CX X E)
    (hdb : (x == ("__debug__" : Str)) = false := by decide) : PE X (.Call (.Name x p) [] [] pos) (tMake C sp dvs E tNil) := by
  intro pins s σ H Q I h
  refine wpAny_Call_Name_kw (ld_glob I hg hm ?_ hdb)
  exact PySem.W.callWith_K0 I.kIn M.kp (run_make (us := []) M F hr hb hd hx I .nil h)
end
section
variable {X : Cx} {CX : CXT} {k : Nat} {f C : Addr} {fd : FuncData} {ps ks : List Str} {sp : Sp} {E : XK} {x m : Str} {p pos apos kpos : Pos} {e o : Expr} {es : List Expr} {kws : List Keyword} {te ta : TE} {t tk : TA} {nm : Option Str}
variable {g : List Value → List Value → List Value} {gV : List V → List V → List V}
end
structure FnScope (N P : List Str) (sc : Scope) : Prop where
  kind : sc.kind = .function
  co : sc.isCoroutine = false
  gen : sc.isGenerator = false
  nd : N.Nodup
  pre : N.take P.length = P
  par : ∀ x ∈ P, sc.names.lookup x = some .local ∨ sc.names.lookup x = some .cell
  nofree : ∀ y ∈ sc.names, y.2 ≠ .free
theorem bindL_out {kindOf : Str → Option NameKind} {x : Str} : ∀ {binds : List (Str × Value)} {m : Str → Option Value}, (∀ v, (x, v) ∉ binds) → bindL kindOf binds m x = m x
  | [], _, _ => rfl
  | (n, v) :: r, m, h => by
    unfold bindL
    rw [bindL_out fun w hw => h w (List.mem_cons_of_mem _ hw)]
    split
    · have : x ≠ n := by rintro rfl; exact h v List.mem_cons_self
      simp [this]
    · rfl
theorem bindC_out {kindOf : Str → Option NameKind} {x : Str} : ∀ {binds : List (Str × Value)} {m : Str → Option Value}, (∀ v, (x, v) ∉ binds) → bindC kindOf binds m x = m x
  | [], _, _ => rfl
  | (n, v) :: r, m, h => by
    unfold bindC
    rw [bindC_out fun w hw => h w (List.mem_cons_of_mem _ hw)]
    split
    · rfl
    · have : x ≠ n := by rintro rfl; exact h v List.mem_cons_self
      simp [this]
theorem bindL_get {kindOf : Str → Option NameKind} {x : Str} {v : Value} : ∀ {P : List Str} {vs : List Value} {i : Nat} {m : Str → Option Value}, P.Nodup → P[i]? = some x → vs[i]? = some v → kindOf x = some .local →
    bindL kindOf (P.zip vs) m x = some v
  | [], _, _, _, _, h, _, _ => by simp at h
  | _ :: _, [], _, _, _, _, h, _ => by simp at h
  | p :: P, w :: vs, 0, m, nd, h1, h2, hk => by
    simp at h1 h2; subst h1; subst h2
    show bindL kindOf ((p, w) :: P.zip vs) m p = _
    unfold bindL
    rw [bindL_out fun v hv => (List.nodup_cons.mp nd).1 (List.of_mem_zip hv).1, if_pos hk]
    simp
  | p :: P, w :: vs, i + 1, m, nd, h1, h2, hk => by
    show bindL kindOf ((p, w) :: P.zip vs) m x = _
    unfold bindL
    exact bindL_get (i := i) (List.nodup_cons.mp nd).2 (by simpa using h1) (by simpa using h2) hk
theorem bindC_get {kindOf : Str → Option NameKind} {x : Str} {v : Value} : ∀ {P : List Str} {vs : List Value} {i : Nat} {m : Str → Option Value}, P.Nodup → P[i]? = some x → vs[i]? = some v → kindOf x ≠ some .local →
    bindC kindOf (P.zip vs) m x = some v
  | [], _, _, _, _, h, _, _ => by simp at h
  | _ :: _, [], _, _, _, _, h, _ => by simp at h
  | p :: P, w :: vs, 0, m, nd, h1, h2, hk => by
    simp at h1 h2; subst h1; subst h2
    show bindC kindOf ((p, w) :: P.zip vs) m p = _
    unfold bindC
    rw [bindC_out fun v hv => (List.nodup_cons.mp nd).1 (List.of_mem_zip hv).1, if_neg hk]
    simp
  | p :: P, w :: vs, i + 1, m, nd, h1, h2, hk => by
    show bindC kindOf ((p, w) :: P.zip vs) m x = _
    unfold bindC
    exact bindC_get (i := i) (List.nodup_cons.mp nd).2 (by simpa using h1) (by simpa using h2) hk
def start (N : List Str) (vs : List V) : St := vs.map some ++ List.replicate (N.length - vs.length) none
def cxOf (CX : CXT) (P : Program) (w : World) (K : PySem.W.Frag) (mg : Str → Option Value) (base : Heap) (N : List Str) (qual : Str) (scope : Scope) (f : Addr) (cd : Value) (A : Around) (outer : List Env) (s : Shared) (H : Hp) (E : XK) : Cx where
  prog := P
  w := w
  K := K
  mg := mg
  base := base
  A := A.deeper (envOfC qual scope s.heap.objs.size f cd)
  N := N
  s₀ := s
  H₀ := H
  env := envOfC qual scope s.heap.objs.size f cd
  outer := outer
  stack := envOfC qual scope s.heap.objs.size f cd :: outer
  ex := []
  calm := true
  fn := fun _ => true
  pn := []
  xe := fun e s' => wpAny (model P w) (A.deeper (envOfC qual scope s.heap.objs.size f cd)) (leaving (envOfC qual scope s.heap.objs.size f cd) e) (fun _ s'' => CX outer H s E e s'') (fun e' s'' => CX outer H s E e' s'') s'
theorem cell_has {sc : Scope} {n : Nat} {x : Str} (h : sc.names.lookup x = some .cell) : ∃ c, (cellsFrom n sc.names []).lookup x = some c := by
  have q := PySem.W.cellsFrom_some sc.names n [] (.inl h)
  exact Option.isSome_iff_exists.mp q
theorem inv_start {CX : CXT} {P : Program} {w : World} {K : PySem.W.Frag} {mg : Str → Option Value} {base : Heap} {N ps : List Str} {qual : Str} {scope : Scope} {f : Addr} {cd : Value} {A : Around} {outer : List Env} {s s1 : Shared} {H : Hp} {E : XK} {us : List Value} {vs : List V}
    (S : FnScope N ps scope) (hd : A.handled = none) (e0 : Env0 P w K mg base A outer s H) (hl : vs.length = ps.length) (r : Vals vs us)
    (x : InCallC s s.heap.objs.size (bindL (envOfC qual scope s.heap.objs.size f cd).kindOf (ps.zip us) fun _ => none) (cellsFrom (s.heap.objs.size + 1) scope.names []) (bindC (envOfC qual scope s.heap.objs.size f cd).kindOf (ps.zip us) fun _ => none) s1) :
    Inv (cxOf CX P w K mg base N qual scope f cd A outer s H E) [] (start N vs) H s1 := by
  have hpl : ps.length ≤ N.length := by have := congrArg List.length S.pre; rw [List.length_take] at this; omega
  obtain ⟨h1, tk, rfl, hk⟩ := x.done
  have noA : ∀ b : Addr, b ∉ (cxOf CX P w K mg base N qual scope f cd A outer s H E).ex := fun b z => absurd (show b ∈ ([] : List Addr) from z) (by simp)
  refine ⟨⟨e0.mod, S.kind, rfl, rfl, Nat.le_refl _, fun y z c h1 h2 => ?_, fun y hy => ?_, fun y c _ h => ?_, fun _ => hd, Around.frames_deeper e0.frames, .inr ⟨rfl, rfl⟩, fun b z => absurd z (noA b), e0.bs, e0.bsz, fun b _ _ => noA b, fun b z => absurd z (noA b), e0.funs, e0.frf⟩,
    rfl, e0.bare, Un.kept hk, ⟨_, x.toInCall.ns, fun i y v h1 h2 h3 => ?_⟩, fun y c h => ⟨_, x.cell y c h⟩, e0.hok.fresh (Nat.le_refl _), fun y c h => ?_, fun p hp => absurd (show p ∈ ([] : List (Addr × Obj)) from hp) (by simp), e0.hok.kept hk, ?_⟩
  · exact name_of_addr x.apart (PySem.mem_of_lookup h1) (PySem.mem_of_lookup h2)
  · have hy : scope.names.lookup y = some .cell ∨ scope.names.lookup y = some .free := hy
    rcases hy with hy | hy
    · exact cell_has hy
    · exact absurd rfl (S.nofree _ (PySem.mem_of_lookup hy))
  · exact Nat.le_of_lt (x.above y c (PySem.mem_of_lookup h))
  · have hi : i < vs.length := by
      unfold start at h2
      by_cases hi : i < vs.length
      · exact hi
      · rw [List.getElem?_append_right (by simpa using hi)] at h2
        rw [List.getElem?_replicate] at h2
        split at h2 <;> cases h2
    have ha : vs[i]? = some v := by
      unfold start at h2
      rw [List.getElem?_append_left (by simpa using hi), List.getElem?_map] at h2
      cases e : vs[i]? with
      | none => rw [e] at h2; cases h2
      | some a => rw [e] at h2; cases h2; rfl
    obtain ⟨u, hu, rv⟩ := r.get ha
    have hp : ps[i]? = some y := by
      rw [← S.pre, List.getElem?_take_of_lt (by omega)]; exact h1
    have ndP : ps.Nodup := by rw [← S.pre]; exact S.nd.sublist (List.take_sublist _ _)
    refine ⟨u, rv, ?_⟩
    rcases S.par y (List.mem_of_getElem? hp) with k | k
    · exact .inl ⟨k, bindL_get ndP hp hu k⟩
    · obtain ⟨c, e⟩ := cell_has (n := s.heap.objs.size + 1) k
      refine .inr ⟨.inl k, c, e, ?_⟩
      have q := x.cell y c e
      rw [bindC_get ndP hp hu (by show scope.names.lookup y ≠ _; rw [k]; decide)] at q
      exact q
  · exact e0.hok.fresh (Nat.le_of_lt (x.above y c (PySem.mem_of_lookup h)))
  · unfold start
    show _ = N.length
    rw [List.length_append, List.length_map, List.length_replicate]
    omega
theorem fn_of {CX : CXT} {P : Program} {w : World} {K : PySem.W.Frag} {mg : Str → Option Value} {base : Heap} {k : Nat} {f : Addr} {name qual : Str} {params : Arguments} {body : List Stmt} {scope : Scope} {dV kV doc pm cdv ct oc : Value} {an od : Option Addr}
    {osl : Array (Option Value)} {N ps : List Str} {sp : Sp} (lk : K.lookup f = some ⟨oc, od, .func (PySem.W.fnOf name qual params body scope dV kV doc pm an cdv ct), osl⟩) (hcd : PySem.W.codeIn K cdv qual = true) (S : FnScope N ps scope)
    (len : ∀ vs H Q E, sp vs H Q E → vs.length = ps.length)
    (hbody : ∀ (A : Around) (outer : List Env) (s : Shared) (H : Hp) (vs : List V) (Q : VK) (E : XK), Room k (A.deeper (envOfC qual scope s.heap.objs.size f cdv)) → sp vs H Q E →
      ∃ t, PSs (cxOf CX P w K mg base N qual scope f cdv A outer s H E) body t ∧ t { nx := fun _ H' => Q .non H', rt := Q } (start N vs) H) :
    FnOk P w K mg base CX (k + 1) f (PySem.W.fnOf name qual params body scope dV kV doc pm an cdv ct) ps sp := by
  refine ⟨len, fun A outer s H args us vs Q E hr e0 hb r hsp => ?_⟩
  have hl := len _ _ _ _ hsp
  have KX : K.In s.heap := e0.mod.kin.keeps fun b o e => (e0.bs b o e).1
  have lim : s.heap.NoLimit := e0.mod.nolimit.keeps fun b o e => (e0.bs b o e).1
  have hkind : ∀ y ∈ ps.zip us, scope.names.lookup y.1 = some .local ∨ (scope.names.lookup y.1 = some .cell ∧ ((cellsFrom (s.heap.objs.size + 1) scope.names []).lookup y.1).isSome = true) := fun ⟨n, v⟩ hy => by
    rcases S.par n (List.of_mem_zip hy).1 with q | q
    · exact .inl q
    · exact .inr ⟨q, PySem.W.cellsFrom_some _ _ _ (.inl q)⟩
  refine codeAny_call_function hr.depth (KX _ _ lk) rfl S.co S.gen rfl (PySem.W.codeRec_of KX hcd) (hb _ _ _ _ ?_)
  refine wpAny_newFunctionEnv_cells S.kind hkind fun env he s1 x => ?_
  subst he
  refine ⟨lim.keeps x.toInCall.keep, codeAny_func ?_⟩
  obtain ⟨t, ht, hq⟩ := hbody A outer s H vs Q E (hr.deeper _) hsp
  have I : Inv (cxOf CX P w K mg base N qual scope f cdv A outer s H E) [] (start N vs) H s1 := inv_start S hr.hd e0 hl r x
  refine wpAny_mono (ht [] s1 (start N vs) H _ I hq) (fun fl s' hs => ?_) fun e s' hs => hs
  have fin : ∀ {σ' : St} {H' : Hp} {v : V} {u : Value}, Inv (cxOf CX P w K mg base N qual scope f cdv A outer s H E) [] σ' H' s' → RelV v u → Q v H' → CE outer P w H s Q u s' :=
    fun {σ' H' v u} J rv q => ⟨v, H', J.os, J.bare, J.base, J.hok, rv, q⟩
  cases fl with
  | ret u =>
    obtain ⟨v, σ', H', J, rv, q⟩ := hs
    exact fin J rv q
  | next =>
    obtain ⟨σ', H', J, q⟩ := hs
    exact fin (v := V.non) (u := Value.none) J rfl q
  | brk =>
    obtain ⟨_, _, _, q⟩ := hs
    exact False.elim q
  | cont =>
    obtain ⟨_, _, _, q⟩ := hs
    exact False.elim q
end L2
namespace L2
open PySem PySem.Spec PyProof.Rows
section
variable {X : Cx} {x : Str} {p pos : Pos} {e : Expr} {es : List Expr} {t : TA} {id T : String} {r : List V → Hp → VK → Prop}
def tCB (r : List V → Hp → VK → Prop) (t : TA) : TE := fun σ H Q => t σ H fun vs H1 => r vs H1 Q
theorem pe_callB (hc : CallR X (.builtin id) r) (hg : Gl X x) (hm : X.mg x = none) (hv : bootBuiltins x = some (.builtin id)) (ha : PA X (e :: es) t) (hn : x ≠ "__name__" := by decide) (hdb : (x == ("__debug__" : Str)) = false := by decide)
    (he : starEach (e :: es) X.env = (false, eval e X.env) :: starEach es X.env := by rfl) (hpl : (backTo pos (starEach es X.env)).any (·.1) = false := by rfl) : PE X (.Call (.Name x p) (e :: es) [] pos) (tCB r t) := by
  intro pins s σ H Q I h
  refine wpAny_Call_Name_kw (ld_blt I hg hm hv ?_ hn hdb)
  exact PyProof.Rows.callWith_builtin1 (thn (ha pos pins s σ H _ I h) fun us s1 ⟨vs, H1, I1, r1, q1⟩ => hc pins s1 σ H1 vs us Q I1 r1 q1) he hpl
theorem pe_callTy (hc : CallR X (.type T) r) (hg : Gl X x) (hm : X.mg x = none) (hv : bootBuiltins x = some (.type T)) (ha : PA X (e :: es) t) (hn : x ≠ "__name__" := by decide) (hdb : (x == ("__debug__" : Str)) = false := by decide)
    (he : starEach (e :: es) X.env = (false, eval e X.env) :: starEach es X.env := by rfl) (hpl : (backTo pos (starEach es X.env)).any (·.1) = false := by rfl) : PE X (.Call (.Name x p) (e :: es) [] pos) (tCB r t) := by
  intro pins s σ H Q I h
  refine wpAny_Call_Name_kw (ld_blt I hg hm hv ?_ hn hdb)
  exact PyProof.Rows.callWith_type1 (thn (ha pos pins s σ H _ I h) fun us s1 ⟨vs, H1, I1, r1, q1⟩ => hc pins s1 σ H1 vs us Q I1 r1 q1) he hpl
end
end L2
namespace HT
open PySem PyProof.Rows
def lexLt : List Int → List Int → Bool
  | [], [] => false
  | [], _ :: _ => true
  | _ :: _, [] => false
  | x :: xs, y :: ys => if x = y then lexLt xs ys else decide (x < y)
theorem lexLt_cons (x y : Int) (xs ys : List Int) : lexLt (x :: xs) (y :: ys) = if x = y then lexLt xs ys else decide (x < y) := rfl
theorem lexLt_nil_nil : lexLt [] [] = false := rfl
theorem lexLt_nil_cons (y : Int) (ys : List Int) : lexLt [] (y :: ys) = true := rfl
theorem lexLt_cons_nil (x : Int) (xs : List Int) : lexLt (x :: xs) [] = false := rfl
theorem eqAt_int (A : Around) (s : Shared) (a : Int) (t : Tok) (c : Int) (u : Tok) : ∃ e, SeqAt.EqAt A s (.int a t) (.int c u) e ∧ (e = true ↔ a = c) :=
  ⟨(a == c), SeqAt.EqAt.int_int a t c u, by simp⟩
theorem rcLt_int (A : Around) (s : Shared) (a : Int) (t : Tok) (c : Int) (u : Tok) (prog : Program) (w : World) (E : Value → Shared → Prop) (Q : Value → Shared → Prop) (h : Q (.bool (decide (a < c))) s) :
    wpAny (model prog w) A (richCompare .Lt (.int a t) (.int c u)) Q E s :=
  (PyProof.Rows.lt_int h : wpAny (model prog w) A (compareOp .Lt (.int a t) (.int c u)) Q E s)
section
open PySem.SeqAt
open PySem.AutoSeq1 (wpAny_loadPart')
open PySem.MeetsSeq PySem.MeetsSeq2 PySem.MeetsSeq3
theorem tuple_lt_ints (l b : Addr) (items items2 : Array Value) (n n2 : Nat) (dd dd2 : Option Addr) (sl sl2 : Array (Option Value)) (ns ms : List Int) (hi : IntsAre items.toList ns) (hj : IntsAre items2.toList ms) :
    Meets (Builtin.«tuple.__lt__» ⟨[.ref l, .ref b], []⟩)
      (fun _ R s => s.heap.get? l = some { cls := .type "tuple", dict := dd, data := .seq items n, slots := sl } ∧ s.heap.get? b = some { cls := .type "tuple", dict := dd2, data := .seq items2 n2, slots := sl2 } ∧
        R (.ok (.ret (.bool (lexLt ns ms)))) s) :=
  .of_wp fun prog w A R s h => by
    obtain ⟨hp, g, d, tk, os⟩ := s; obtain ⟨hl, hb, h⟩ := h
    have f2 := AutoSeq1.sub_tuple_tuple
    have z1 : items.size = ns.length := by rw [← hi.length]; simp
    have z2 : items2.size = ms.length := by rw [← hj.length]; simp
    wp_walk using wpAny_loadPart' hl, wpAny_loadPart' hb, wpAny_forIn_list _ (fun rest b s' => b.1 = none ∧ s' = ⟨hp, g, d, tk, os⟩ ∧ ∃ (vs ws : List Value) (ns' ms' : List Int), rest = vs.zip ws ∧
      IntsAre vs ns' ∧ IntsAre ws ms' ∧ ns'.length + items2.size = ms'.length + items.size ∧ R (.ok (.ret (.bool (lexLt ns' ms')))) ⟨hp, g, d, tk, os⟩) _
    case turn =>
      rintro ⟨y, x⟩ rest b s' ⟨hb', rfl, vs, ws, ns', ms', hz, hvi, hwi, hlen, hR⟩
      cases hvi with
      | nil => rw [List.zip_nil_left] at hz; cases hz
      | cons a t hvi' =>
        cases hwi with
        | nil => rw [List.zip_nil_right] at hz; cases hz
        | cons c u hwi' =>
          rw [List.zip_cons_cons] at hz
          injection hz with hyx hrest
          injection hyx with hy hx
          subst hy hx
          rw [lexLt_cons] at hR
          simp only [List.length_cons] at hlen
          obtain ⟨e, he, hiff⟩ := eqAt_int A.in1 ⟨hp, g, d, tk, os⟩ a t c u
          refine wpAny_bind (he prog w _ _ ?_)
          cases e with
          | true =>
            rw [if_pos (hiff.mp rfl)] at hR
            wp_walk
            exact ⟨rfl, rfl, _, _, _, _, hrest, hvi', hwi', by omega, hR⟩
          | false =>
            rw [if_neg (fun q => absurd (hiff.mpr q) Bool.false_ne_true)] at hR
            have hri := rcLt_int A.in1 ⟨hp, g, d, tk, os⟩ a t c u prog w
            wp_walk using hri
            exact ⟨_, rfl, by simpa using hR⟩
    case fin =>
      rintro ⟨b1, b2⟩ s' ⟨hb', rfl, vs, ws, ns', ms', hz, hvi, hwi, hlen, hR⟩
      simp only at hb'
      subst hb'
      have hv : lexLt ns' ms' = decide (items.size < items2.size) := by
        cases hvi with
        | nil =>
          cases hwi with
          | nil =>
            simp only [List.length_nil] at hlen
            rw [lexLt_nil_nil]
            exact (decide_eq_false (by omega)).symm
          | cons c u hw =>
            simp only [List.length_nil, List.length_cons] at hlen
            rw [lexLt_nil_cons]
            exact (decide_eq_true (by omega)).symm
        | cons a t hv =>
          cases hwi with
          | nil =>
            simp only [List.length_nil, List.length_cons] at hlen
            rw [lexLt_cons_nil]
            exact (decide_eq_false (by omega)).symm
          | cons c u hw =>
            rw [List.zip_cons_cons] at hz
            cases hz
      rw [hv] at hR
      wp_walk
      exact ⟨_, rfl, by simpa [Builtin.Tuple.tupleCompareSizes] using hR⟩
    case h =>
      exact ⟨rfl, rfl, items.toList, items2.toList, ns, ms, rfl, hi, hj, by omega, h⟩
end
section
variable {prog : Program} {w : World} {A : Around} {E : Value → Shared → Prop} {s : Shared}
theorem lt_tupInts {l b : Addr} {items items2 : Array Value} {ns ms : List Int} {Q : Value → Shared → Prop} (hl : IsTup s.heap l items) (hb : IsTup s.heap b items2) (hi : IntsAre items.toList ns) (hj : IntsAre items2.toList ms)
    (hu : A.units < cLine) (h : Q (.bool (lexLt ns ms)) s) : wpAny (model prog w) A (compareOp .Lt (.ref l) (.ref b)) Q E s := by
  obtain ⟨⟨cls, dd, data, sl⟩, ho, hc, n, hd⟩ := id hl
  obtain ⟨⟨cls2, dd2, data2, sl2⟩, ho2, hc2, n2, hd2⟩ := id hb
  simp only at hc hd hc2 hd2
  subst hc hd hc2 hd2
  exact richCompare_meets_room (op := .Lt) ⟨_, ho, rfl⟩ ⟨_, ho2, rfl⟩ PySem.F.slot_tuple_lt PySem.F.entry_tuple_lt (PySem.F.args_tuple_lt_2 _ _) (tuple_lt_ints l b items items2 n n2 dd dd2 sl sl2 ns ms hi hj)
    ⟨ho, ho2, show Value.bool (lexLt ns ms) ≠ Value.notImplemented ∧ Q (.bool (lexLt ns ms)) s from ⟨(fun x => nomatch x), h⟩⟩ hu
def sIx (n d : Nat) : Option Int → Nat
  | none => d
  | some v => if v < 0 then (v + (n : Int)).toNat else min v.toNat n
theorem sIx_none (n d : Nat) : sIx n d none = d := rfl
theorem sIx_nat (n d k : Nat) : sIx n d (some (k : Int)) = min k n := by
  show (if (k : Int) < 0 then ((k : Int) + (n : Int)).toNat else min (k : Int).toNat n) = min k n
  rw [if_neg (by omega), Int.toNat_natCast]
end
end HT
namespace L2
open PySem PySem.Spec PyProof.Rows
abbrev TO := St → Hp → (Option Int → Hp → Prop) → Prop
def PO (X : Cx) (e : Option Expr) (t : TO) : Prop :=
  ∀ (pins : List (Addr × Obj)) (s : Shared) (σ : St) (H : Hp) (Q : Option Int → Hp → Prop), Inv X pins σ H s → t σ H Q →
    wpAny (model X.prog X.w) X.A (evalPart e X.env) (fun u s' => ∃ o H', Inv X pins σ H' s' ∧ IsPart u o ∧ Q o H') X.xe s
def tNoPart : TO := fun _ H Q => Q none H
def tPart (t : TE) : TO := fun σ H Q => t σ H fun x H1 => ∃ i, x = .int i ∧ Q (some i) H1
theorem intsAre_of {ns : List Int} : ∀ {us : List Value}, Vals (ns.map V.int) us → IntsAre us ns := by
  induction ns with
  | nil => intro us r; rw [List.map_nil] at r; cases r; exact .nil
  | cons n ns ih =>
    intro us r
    rw [List.map_cons] at r
    cases r with
    | cons r1 r2 =>
      obtain ⟨t, e⟩ := r1
      subst e
      exact .cons n t (ih r2)
section
variable {X : Cx} {e : Expr} {te : TE} {lo hi : Option Expr} {tl th : TO} {pos p2 : Pos}
theorem po_none : PO X none tNoPart := by
  intro pins s σ H Q I h
  rw [evalPart_none]
  exact wpAny_pure ⟨none, H, I, .none, h⟩
theorem po_some (h : PE X e te) : PO X (some e) (tPart te) := by
  intro pins s σ H Q I hw
  rw [evalPart_some]
  refine thn (h pins s σ H _ I hw) fun u s1 ⟨x, H1, I1, r1, q1⟩ => ?_
  obtain ⟨i, rfl, q⟩ := q1
  obtain ⟨t, rfl⟩ := r1
  exact ⟨some i, H1, I1, .int i t, q⟩
def SlR (X : Cx) (r : V → Option Int → Option Int → Hp → VK → Prop) : Prop :=
  ∀ (pins : List (Addr × Obj)) (s : Shared) (σ : St) (H : Hp) (x : V) (v vl vu : Value) (lo hi : Option Int) (sl : Addr) (Q : VK), Inv X pins σ H s → RelV x v → s.heap.IsSliceOf sl vl vu .none → IsPart vl lo → IsPart vu hi → r x lo hi H Q →
    ∃ T id, typeLookup (.type T) "__getitem__" = pure (some (.builtin id)) ∧ s.TypeIs v T ∧ wpAny (model X.prog X.w) X.A (getItem v (.ref sl)) (EP X pins σ Q) X.xe s
def tSl (r : V → Option Int → Option Int → Hp → VK → Prop) (te : TE) (tl th : TO) : TE := fun σ H Q => te σ H fun x H1 => tl σ H1 fun l H2 => th σ H2 fun u H3 => r x l u H3 Q
theorem pe_slice {r : V → Option Int → Option Int → Hp → VK → Prop} (hr : SlR X r) (he : PE X e te) (hl : PO X lo tl) (hu : PO X hi th) : PE X (.Subscript e (.Slice lo hi none p2) pos) (tSl r te tl th) := by
  intro pins s σ H Q I h
  refine Subscript_ (thn (he pins s σ H _ I h) fun v s1 ⟨x, H1, I1, r1, q1⟩ => ?_)
  refine wpAny_Slice (thn (hl pins s1 σ H1 _ I1 q1) fun vl s2 ⟨l, H2, I2, pl, q2⟩ => thn (hu pins s2 σ H2 _ I2 q2) fun vu s3 ⟨u, H3, I3, pu, q3⟩ => ?_)
  rw [evalPart_none]
  refine wpAny_pure ?_
  have I4 : Inv X pins σ H3 { s3 with heap := s3.heap.push { cls := .type "slice", data := .fields #[vl, vu, .none] } } := I3.kept (t' := s3.toks) fun b ob q => Heap.get?_push_of_some _ q
  obtain ⟨T, id, hT, ht, hg⟩ := hr pins { s3 with heap := s3.heap.push { cls := .type "slice", data := .fields #[vl, vu, .none] } } σ H3 x v vl vu l u s3.heap.objs.size Q I4 r1 (Heap.IsSliceOf.new ..) pl pu q3
  show wpAny (model X.prog X.w) X.A (subscriptTail e (.Slice lo hi none p2) v (.ref s3.heap.objs.size)) (EP X pins σ Q) X.xe { s3 with heap := s3.heap.push { cls := .type "slice", data := .fields #[vl, vu, .none] } }
  exact tail_any (ops := [.ref s3.heap.objs.size, v]) ht hT hg (by with_unfolding_all rfl)
def cutV (xs : List V) (lo hi : Option Int) : List V := (xs.drop (HT.sIx xs.length 0 lo)).take (HT.sIx xs.length xs.length hi - HT.sIx xs.length 0 lo)
theorem cutV_length (xs : List V) (lo hi : Option Int) : (cutV xs lo hi).length ≤ xs.length := by
  unfold cutV
  rw [List.length_take, List.length_drop]
  omega
def rLtT (K : PySem.W.Frag) : R2 := fun x y H Q => ∃ a b ns ms, x = .ref a ∧ y = .ref b ∧ SqT K H a (ns.map V.int) ∧ SqT K H b (ms.map V.int) ∧ Q (.bl (HT.lexLt ns ms)) H
theorem op_ltT (hu : X.A.units < cLine) : OpR X (compareOp .Lt) (rLtT X.K) := by
  intro pins s σ H x y v u Q I rx ry h
  obtain ⟨a, b, ns, ms, rfl, rfl, ha, hb, q⟩ := h
  cases rx
  cases ry
  obtain ⟨its, r1, p1, _⟩ := I.tuple ha
  obtain ⟨its2, r2, p2, _⟩ := I.tuple hb
  have i1 : IntsAre its.toArray.toList ns := intsAre_of r1
  have i2 : IntsAre its2.toArray.toList ms := intsAre_of r2
  exact HT.lt_tupInts p1 p2 i1 i2 hu ⟨.bl (HT.lexLt ns ms), H, I, rfl, q⟩
end
end L2
namespace L2
open PySem PySem.Spec PyProof.Rows
def ixN (n : Nat) (i : Int) : Option Nat := if 0 ≤ i then (if i < n then some i.toNat else none) else if -(n : Int) ≤ i then some (i + n).toNat else none
def atI {α : Type} (xs : List α) (i : Int) : Option α := (ixN xs.length i).bind fun j => xs[j]?
theorem ixN_seq {n : Nat} {i : Int} {j : Nat} (h : ixN n i = some j) : seqIndex? i n = some j ∧ j < n ∧ -(n : Int) ≤ i ∧ i < n := by
  unfold ixN at h
  by_cases h0 : 0 ≤ i
  · rw [if_pos h0] at h
    by_cases h1 : i < n
    · rw [if_pos h1] at h
      have e : i.toNat = j := Option.some.inj h
      exact ⟨by rw [seqIndex_of h0 h1, e], by omega, by omega, h1⟩
    · rw [if_neg h1] at h; cases h
  · rw [if_neg h0] at h
    by_cases h1 : -(n : Int) ≤ i
    · rw [if_pos h1] at h
      have e : (i + n).toNat = j := Option.some.inj h
      exact ⟨by rw [seqIndex_neg (by omega) h1, e], by omega, h1, by omega⟩
    · rw [if_neg h1] at h; cases h
theorem atI_get {α : Type} {xs : List α} {i : Int} {v : α} (h : atI xs i = some v) : ∃ j, seqIndex? i xs.length = some j ∧ xs[j]? = some v ∧ j < xs.length ∧ -(xs.length : Int) ≤ i ∧ i < xs.length := by
  unfold atI at h
  cases e : ixN xs.length i with
  | none => rw [e] at h; cases h
  | some j =>
    rw [e] at h
    obtain ⟨h1, h2, h3, h4⟩ := ixN_seq e
    exact ⟨j, h1, h, h2, h3, h4⟩
theorem atI_nat {α : Type} {xs : List α} {j : Nat} {v : α} (h : xs[j]? = some v) : atI xs (j : Int) = some v := by
  have hj : j < xs.length := (List.getElem?_eq_some_iff.mp h).1
  have e : ixN xs.length (j : Int) = some j := by
    unfold ixN
    rw [if_pos (by omega), if_pos (by omega)]; simp
  unfold atI; rw [e]; exact h
theorem atI_last {α : Type} (xs : List α) (v : α) : atI (xs ++ [v]) (-1) = some v := by
  have hl : (xs ++ [v]).length = xs.length + 1 := by simp
  have e : ixN (xs ++ [v]).length (-1) = some xs.length := by
    unfold ixN
    rw [hl, if_neg (by decide), if_pos (by omega)]
    congr 1
    omega
  unfold atI
  rw [e]
  show (xs ++ [v])[xs.length]? = some v
  simp
def PlainIx (b : Expr) : Prop := ∀ o i, subscripted b false o i = operate [o, i] (getItem o i)
def IxR (X : Cx) (r : R2) : Prop :=
  ∀ (value slice : Expr) (pins : List (Addr × Obj)) (s : Shared) (σ : St) (H : Hp) (x y : V) (v u : Value) (Q : VK), Inv X pins σ H s → RelV x v → RelV y u → r x y H Q →
    subscripted slice false v u = operate [v, u] (getItem v u) → wpAny (model X.prog X.w) X.A (subscriptTail value slice v u) (EP X pins σ Q) X.xe s
def MtR (X : Cx) (id : String) (r : V → List V → Hp → VK → Prop) : Prop :=
  ∀ (pins : List (Addr × Obj)) (s : Shared) (σ : St) (H : Hp) (x : V) (xs : List V) (v : Value) (us : List Value) (Q : VK), Inv X pins σ H s → RelV x v → Vals xs us → r x xs H Q →
    wpAny (model X.prog X.w) X.A (call (.builtin id) (v :: us)) (EP X pins σ Q) X.xe s
section
variable {X : Cx} {a b : Expr} {ta tb : TE} {pos : Pos}
theorem pe_ix {r : R2} (hr : IxR X r) (ha : PE X a ta) (hb : PE X b tb) (hs : PlainIx b) : PE X (.Subscript a b pos) (tOp r ta tb) := by
  intro pins s σ H Q I h
  exact Subscript_ (binT ha hb I h fun v u s2 x y H2 I2 rx ry q => hr a b pins s2 σ H2 x y v u Q I2 rx ry q (hs _ _))
def rIxL (K : PySem.W.Frag) : R2 := fun x y H Q => ∃ p xs i v, x = .ref p ∧ y = .int i ∧ SqL K H p xs ∧ atI xs i = some v ∧ Q v H
def rIxT (K : PySem.W.Frag) : R2 := fun x y H Q => ∃ p xs i v, x = .ref p ∧ y = .int i ∧ SqT K H p xs ∧ atI xs i = some v ∧ Q v H
theorem ix_list : IxR X (rIxL X.K) := by
  intro value slice pins s σ H x y v u Q I rx ry h hs
  obtain ⟨p, xs, i, z, rfl, rfl, hq, he, q⟩ := h
  cases rx
  obtain ⟨t, rfl⟩ := ry
  obtain ⟨its, r, pl, hz⟩ := I.list hq
  obtain ⟨j, h1, h2, h3, h4, h5⟩ := atI_get he
  obtain ⟨w, ew, rw'⟩ := r.get h2
  have hl := r.length
  have hn := line63
  have fin : EP X pins σ Q w s := ⟨z, H, I, rw', q⟩
  by_cases h0 : 0 ≤ i
  · have hj : i.toNat = j := by
      rw [seqIndex_of h0 h5] at h1
      exact Option.some.inj h1
    exact item_listR pl.isList h0 (by omega) (by rw [hj]; simpa using ew) fin hs
  · have hj : (i + (its.toArray.size : Int)).toNat = j := by
      rw [seqIndex_neg (by omega) h4] at h1
      rw [List.size_toArray, ← hl]
      exact Option.some.inj h1
    exact subscriptTail_builtinR (x := w) pl.isList.typeIs slot_list_getitem.lookup
      (wpAny_getItem_list_neg (Q := fun r s' => r = w ∧ EP X pins σ Q r s') pl.isList (by omega) (by rw [List.size_toArray] <;> omega) (by omega) (by rw [hj]; simpa using ew) ⟨rfl, fin⟩) hs
theorem ix_tup : IxR X (rIxT X.K) := by
  intro value slice pins s σ H x y v u Q I rx ry h hs
  obtain ⟨p, xs, i, z, rfl, rfl, hq, he, q⟩ := h
  cases rx
  obtain ⟨t, rfl⟩ := ry
  obtain ⟨its, r, pl, hz⟩ := I.tuple hq
  obtain ⟨j, h1, h2, h3, h4, h5⟩ := atI_get he
  obtain ⟨w, ew, rw'⟩ := r.get h2
  have hl := r.length
  have hn := line63
  have fin : EP X pins σ Q w s := ⟨z, H, I, rw', q⟩
  exact subscriptTail_builtinR (x := w) pl.typeIs slot_tuple_getitem.lookup
    (getItem_tuple (j := j) (Q := fun r s' => r = w ∧ EP X pins σ Q r s') pl (by omega) (by omega) (by rw [List.size_toArray, ← hl]; exact h1) (by simpa using ew) ⟨rfl, fin⟩) hs
theorem mapSeq_set (its : List Value) (n j : Nat) (u : Value) : Obj.mapSeq (·.setIfInBounds j u) { cls := .type "list", data := .seq its.toArray n } = { cls := .type "list", data := .seq (its.set j u).toArray n } := by
  simp [Obj.mapSeq]
theorem Inv.lst {pins : List (Addr × Obj)} {σ : St} {H : Hp} {s : Shared} {p : Addr} {xs : List V} (I : Inv X pins σ H s) (h : H p = some (.lst xs)) :
    ∃ (its : List Value) (n : Nat), Vals xs its ∧ s.heap.get? p = some { cls := .type "list", data := .seq its.toArray n } ∧ xs.length ≤ sizeLine := by
  obtain ⟨z, its, n, r, e⟩ := I.hok p _ h
  exact ⟨its, n, r, e, z⟩
theorem Inv.lstUpd {pins : List (Addr × Obj)} {σ : St} {H : Hp} {s : Shared} {p : Addr} {xs ys : List V} {its its' : List Value} {n n' : Nat} {f : Obj → Obj} (I : Inv X pins σ H s) (h : H p = some (.lst xs))
    (ho : s.heap.get? p = some { cls := .type "list", data := .seq its.toArray n }) (hf : f { cls := .type "list", data := .seq its.toArray n } = { cls := .type "list", data := .seq its'.toArray n' }) (r : Vals ys its') (hz : ys.length ≤ sizeLine) (t : Nat) :
    Inv X pins σ (upd H p (.lst ys)) { s with heap := s.heap.update p f, toks := t } := by
  have e : (s.heap.update p f).get? p = some { cls := .type "list", data := .seq its'.toArray n' } := by
    rw [Heap.get?_update_self f ho (by rw [hf] <;> rfl), hf]
  refine I.write (x := p) (e := p) (by rw [h]; trivial) (.inl rfl) (fun b u hb q => (Heap.get?_update_other _ _ (Ne.symm hb)).trans q) ⟨_, e⟩ ?_
  exact ⟨hz, its', n', r, e⟩
def rSetL : V → V → V → Hp → (Hp → Prop) → Prop := fun o i v H Q => ∃ p xs k j, o = .ref p ∧ i = .int k ∧ H p = some (.lst xs) ∧ ixN xs.length k = some j ∧ Q (upd H p (.lst (xs.set j v)))
theorem set_list : PSet X rSetL := by
  intro pins s σ H o i v ov iv u Q I ro ri rv h
  obtain ⟨p, xs, k, j, rfl, rfl, hp, hj, q⟩ := h
  cases ro
  obtain ⟨t, rfl⟩ := ri
  obtain ⟨its, n, r, ho, hz⟩ := I.lst hp
  obtain ⟨h1, h2, h3, h4⟩ := ixN_seq hj
  have hl := r.length
  have hn := line63
  have I' : Inv X pins σ (upd H p (.lst (xs.set j v))) { s with heap := s.heap.update p (Obj.mapSeq (·.setIfInBounds j u)) } :=
    I.lstUpd hp ho (mapSeq_set its n j u) (r.set rv j) (by rw [List.length_set]; exact hz) s.toks
  by_cases h0 : 0 ≤ k
  · have hk : k.toNat = j := by
      rw [seqIndex_of h0 h4] at h1
      exact Option.some.inj h1
    exact PySem.W.ki_setAt ho h0 (by omega) (by rw [List.size_toArray, ← hl]; exact h4) (by rw [hk]; exact ⟨_, I', q⟩)
  · have hk : (k + (its.toArray.size : Int)).toNat = j := by
      rw [seqIndex_neg (by omega) h3] at h1
      rw [List.size_toArray, ← hl]
      exact Option.some.inj h1
    exact PySem.W.ki_setBack ho (by omega) (by rw [List.size_toArray, ← hl]; exact h3) (by omega) (by rw [hk]; exact ⟨_, I', q⟩)
theorem slice_bounds (lo hi : Option Int) (n : Nat) : (sliceBounds lo hi none n).1 = ((HT.sIx n 0 lo : Nat) : Int) ∧ (sliceBounds lo hi none n).2.1 = ((HT.sIx n n hi : Nat) : Int) ∧ (sliceBounds lo hi none n).2.2 = 1 := by
  refine ⟨?_, ?_, rfl⟩
  · cases lo with
    | none => simp [sliceBounds, HT.sIx]
    | some i =>
      simp only [sliceBounds, HT.sIx, Option.getD_none, show (1 : Int) > 0 by decide, if_true]
      by_cases h : i < 0
      · simp only [h, if_true] <;> omega
      · simp only [h, if_false] <;> omega
  · cases hi with
    | none => simp [sliceBounds, HT.sIx]
    | some i =>
      simp only [sliceBounds, HT.sIx, Option.getD_none, show (1 : Int) > 0 by decide, if_true]
      by_cases h : i < 0
      · simp only [h, if_true] <;> omega
      · simp only [h, if_false] <;> omega
theorem slicePick_cut (its : List Value) (lo hi : Option Int) : slicePick its.toArray lo hi none = ((its.drop (HT.sIx its.length 0 lo)).take (HT.sIx its.length its.length hi - HT.sIx its.length 0 lo)).toArray := by
  obtain ⟨h1, h2, h3⟩ := slice_bounds lo hi its.toArray.size
  unfold slicePick
  rw [h1, h2, h3]
  simp only [sliceRange_one, pick_run, List.size_toArray] <;> rfl
def rSlL (K : PySem.W.Frag) : V → Option Int → Option Int → Hp → VK → Prop := fun x lo hi H Q => ∃ a xs, x = .ref a ∧ SqL K H a xs ∧ ∀ p, H p = none → Q (.ref p) (upd H p (.lst (cutV xs lo hi)))
theorem sl_list : SlR X (rSlL X.K) := by
  intro pins s σ H x v vl vu lo hi sl Q I rx hs pl pu h
  obtain ⟨a, xs, rfl, hx, q⟩ := h
  cases rx
  obtain ⟨its, r, ht, hz⟩ := I.list hx
  have hlen := r.length
  refine ⟨"list", _, slot_list_getitem.lookup, ht.isList.typeIs, ?_⟩
  refine wpAny_getItem_list_slice ht.isList hs pl pu .none (by simp) ?_ (by rw [List.size_toArray] <;> omega)
  rw [slicePick_cut, ← hlen]
  refine ⟨.ref s.heap.objs.size, _, I.laid (t' := s.toks) (o := .lst (cutV xs lo hi)) (fun b ob q => Heap.get?_push_of_some _ q) (Nat.le_refl _) ?_, rfl, q _ (I.hok.fresh (Nat.le_refl _))⟩
  exact ⟨Nat.le_trans (cutV_length xs lo hi) hz, _, 0, (r.drop (HT.sIx xs.length 0 lo)).take (HT.sIx xs.length xs.length hi - HT.sIx xs.length 0 lo), Heap.get?_push_size _ rfl⟩
def flatV : V → Bool
  | .non => true
  | .bl _ => true
  | .int _ => true
  | .str _ => true
  | _ => false
def eqV : V → V → Bool
  | .non, .non => true
  | .bl a, .bl b => a == b
  | .bl a, .int b => (if a then 1 else 0) == b
  | .int a, .bl b => a == (if b then 1 else 0)
  | .int a, .int b => a == b
  | .str a, .str b => a == b
  | _, _ => false
theorem eqAt_V {A : Around} {s : Shared} {y x : V} {u v : Value} (ry : RelV y u) (rx : RelV x v) (fy : flatV y = true) (fx : flatV x = true) : SeqAt.EqAt A s u v (eqV y x) := by
  cases y with
  | non =>
    cases ry
    cases x with
    | non => cases rx; exact SeqAt.EqAt.same _
    | bl b => cases rx; exact SeqAt.EqAt.none_bool b
    | int b => obtain ⟨t, rfl⟩ := rx; exact SeqAt.EqAt.none_int b t
    | str b => obtain ⟨t, rfl⟩ := rx; exact SeqAt.EqAt.none_str b t
    | _ => exact absurd (show false = true from fx) Bool.false_ne_true
  | bl a =>
    cases ry
    cases x with
    | non => cases rx; exact SeqAt.EqAt.bool_none a
    | bl b => cases rx; exact SeqAt.EqAt.bool_bool a b
    | int b => obtain ⟨t, rfl⟩ := rx; exact SeqAt.EqAt.bool_int a b t
    | str b => obtain ⟨t, rfl⟩ := rx; exact SeqAt.EqAt.bool_str a b t
    | _ => exact absurd (show false = true from fx) Bool.false_ne_true
  | int a =>
    obtain ⟨t', rfl⟩ := ry
    cases x with
    | non => cases rx; exact SeqAt.EqAt.int_none a t'
    | bl b => cases rx; exact SeqAt.EqAt.int_bool a t' b
    | int b => obtain ⟨t, rfl⟩ := rx; exact SeqAt.EqAt.int_int a t' b t
    | str b => obtain ⟨t, rfl⟩ := rx; exact SeqAt.EqAt.int_str a t' b t
    | _ => exact absurd (show false = true from fx) Bool.false_ne_true
  | str a =>
    obtain ⟨t', rfl⟩ := ry
    cases x with
    | non => cases rx; exact SeqAt.EqAt.str_none a t'
    | bl b => cases rx; exact SeqAt.EqAt.str_bool a t' b
    | int b => obtain ⟨t, rfl⟩ := rx; exact SeqAt.EqAt.str_int a t' b t
    | str b => obtain ⟨t, rfl⟩ := rx; exact SeqAt.EqAt.str_str a t' b t
    | _ => exact absurd (show false = true from fx) Bool.false_ne_true
  | _ => exact absurd (show false = true from fy) Bool.false_ne_true
def eqU (x : V) (u : Value) : Bool := match u with
  | .none => eqV .non x
  | .bool b => eqV (.bl b) x
  | .int i _ => eqV (.int i) x
  | .str z _ => eqV (.str z) x
  | _ => false
theorem eqU_of {x y : V} {u : Value} (r : RelV y u) (f : flatV y = true) : eqU x u = eqV y x := by
  cases y with
  | non => cases r; rfl
  | bl b => cases r; rfl
  | int i => obtain ⟨t, rfl⟩ := r; rfl
  | str z => obtain ⟨t, rfl⟩ := r; rfl
  | _ => exact absurd (show false = true from f) Bool.false_ne_true
theorem any_eqU {x : V} : ∀ {xs : List V} {us : List Value}, Vals xs us → xs.all flatV = true → us.any (eqU x) = xs.any fun y => eqV y x
  | _, _, .nil, _ => rfl
  | y :: xs, u :: us, .cons r t, f => by
    rw [List.all_cons, Bool.and_eq_true] at f
    rw [List.any_cons, List.any_cons, eqU_of r f.1, any_eqU t f.2]
theorem mem_eqAt {A : Around} {s : Shared} {x : V} {v : Value} (rx : RelV x v) (fx : flatV x = true) : ∀ {xs : List V} {us : List Value}, Vals xs us → xs.all flatV = true → ∀ u ∈ us, SeqAt.EqAt A s u v (eqU x u)
  | _, _, .nil, _ => fun u hu => by cases hu
  | y :: xs, u :: us, .cons r t, f => fun u' hu => by
    rw [List.all_cons, Bool.and_eq_true] at f
    rcases List.mem_cons.mp hu with rfl | hu
    · rw [eqU_of r f.1]; exact eqAt_V r rx f.1 fx
    · exact mem_eqAt rx fx t f.2 u' hu
def inV (x : V) (xs : List V) : Bool := xs.any fun y => eqV y x
def rIn (K : PySem.W.Frag) (neg : Bool) : R2 := fun x y H Q => ∃ p xs, y = .ref p ∧ (SqL K H p xs ∨ SqT K H p xs) ∧ flatV x = true ∧ xs.all flatV = true ∧ Q (.bl (if neg then !inV x xs else inV x xs)) H
theorem op_in_seq : OpR X (compareOp .In) (rIn X.K false) := by
  intro pins s σ H x y v u Q I rx ry h
  obtain ⟨p, xs, rfl, hq, fx, fs, q⟩ := h
  cases ry
  rcases hq with hq | hq
  · obtain ⟨its, r, pl, hz⟩ := I.list hq
    refine SeqAt.in_listAt (eqU x) pl.isList (fun w hw => mem_eqAt rx fx r fs w (by simpa using hw)) ⟨.bl _, H, I, rfl, ?_⟩
    rw [show its.toArray.any (eqU x) = its.any (eqU x) by simp, any_eqU r fs]
    exact q
  · obtain ⟨its, r, pl, hz⟩ := I.tuple hq
    refine SeqAt.in_tupleAt (eqU x) pl (fun w hw => mem_eqAt rx fx r fs w (by simpa using hw)) ⟨.bl _, H, I, rfl, ?_⟩
    rw [show its.toArray.any (eqU x) = its.any (eqU x) by simp, any_eqU r fs]
    exact q
theorem op_notIn_seq : OpR X (compareOp .NotIn) (rIn X.K true) := by
  intro pins s σ H x y v u Q I rx ry h
  obtain ⟨p, xs, rfl, hq, fx, fs, q⟩ := h
  cases ry
  rcases hq with hq | hq
  · obtain ⟨its, r, pl, hz⟩ := I.list hq
    refine SeqAt.notIn_listAt (eqU x) pl.isList (fun w hw => mem_eqAt rx fx r fs w (by simpa using hw)) ⟨.bl _, H, I, rfl, ?_⟩
    rw [show its.toArray.any (eqU x) = its.any (eqU x) by simp, any_eqU r fs]
    exact q
  · obtain ⟨its, r, pl, hz⟩ := I.tuple hq
    refine SeqAt.notIn_tupleAt (eqU x) pl (fun w hw => mem_eqAt rx fx r fs w (by simpa using hw)) ⟨.bl _, H, I, rfl, ?_⟩
    rw [show its.toArray.any (eqU x) = its.any (eqU x) by simp, any_eqU r fs]
    exact q
theorem call_len_seq : CallR X (.builtin "len") (fun xs H Q => ∃ p ys, xs = [.ref p] ∧ (SqL X.K H p ys ∨ SqT X.K H p ys) ∧ Q (.int ys.length) H) := by
  intro pins s σ H xs us Q I r h
  obtain ⟨p, ys, rfl, hq, q⟩ := h
  obtain ⟨u, rfl, rx⟩ := vals1 r
  cases rx
  have hn := line63
  rcases hq with hq | hq
  · obtain ⟨its, r', pl, hz⟩ := I.list hq
    have hlen := r'.length
    exact Calls.call_len_list pl.isList (by simp only [List.size_toArray] <;> omega) ⟨.int ys.length, H, I.tok _, ⟨s.toks + 1, by rw [List.size_toArray, hlen]⟩, q⟩
  · obtain ⟨its, r', pl, hz⟩ := I.tuple hq
    have hlen := r'.length
    exact len_tuple pl (by simp only [List.size_toArray] <;> omega) ⟨.int ys.length, H, I.tok _, ⟨s.toks + 1, by rw [List.size_toArray, hlen]⟩, q⟩
theorem call_list_of : CallR X (.type "list") (fun xs H Q => ∃ p ys, xs = [.ref p] ∧ (SqL X.K H p ys ∨ SqT X.K H p ys) ∧ ∀ l, H l = none → Q (.ref l) (upd H l (.lst ys))) := by
  intro pins s σ H xs us Q I r h
  obtain ⟨p, ys, rfl, hq, q⟩ := h
  obtain ⟨u, rfl, rx⟩ := vals1 r
  cases rx
  have fin : ∀ (its : List Value), Vals ys its → ys.length ≤ sizeLine → ∀ (h' : Heap) (c' : Nat), (∀ b o', s.heap.get? b = some o' → h'.get? b = some o') →
      h'.get? s.heap.objs.size = some { cls := .type "list", dict := none, data := .seq its.toArray c', slots := #[] } → EP X pins σ Q (.ref s.heap.objs.size) { s with heap := h' } := fun its r' hz h' c' kp e =>
    ⟨.ref s.heap.objs.size, _, I.laid (t' := s.toks) kp (Nat.le_refl _) (show ObjOk X.prog X.w _ h' _ (.lst ys) from ⟨hz, its, c', r', e⟩), rfl, q _ (I.hok.fresh (Nat.le_refl _))⟩
  rcases hq with hq | hq
  · obtain ⟨its, r', pl, hz⟩ := I.list hq
    have hlen := r'.length
    obtain ⟨o, ho, hc, n, hd⟩ := pl.isList
    exact call_list_seq p (.inl rfl) ho hc hd (fun h' c' kp e => fin its r' hz h' c' kp e) (by simp only [List.size_toArray] <;> omega)
  · obtain ⟨its, r', pl, hz⟩ := I.tuple hq
    have hlen := r'.length
    obtain ⟨o, ho, hc, n, hd⟩ := pl
    exact call_list_seq p (.inr rfl) ho hc hd (fun h' c' kp e => fin its r' hz h' c' kp e) (by simp only [List.size_toArray] <;> omega)
theorem call_tuple_of : CallR X (.type "tuple") (fun xs H Q => ∃ p ys, xs = [.ref p] ∧ ((SqL X.K H p ys ∧ ∀ l, H l = none → Q (.ref l) (upd H l (.tup ys))) ∨ (SqT X.K H p ys ∧ Q (.ref p) H))) := by
  intro pins s σ H xs us Q I r h
  obtain ⟨p, ys, rfl, h⟩ := h
  obtain ⟨u, rfl, rx⟩ := vals1 r
  cases rx
  rcases h with ⟨hq, q⟩ | ⟨hq, q⟩
  · obtain ⟨its, r', pl, hz⟩ := I.list hq
    have hlen := r'.length
    refine call_tuple_list pl.isList (fun h' kp => ?_) (by simp only [List.size_toArray] <;> omega)
    have I1 : Inv X pins σ H { s with heap := h' } := I.kept (t' := s.toks) kp
    have I2 : Inv X pins σ (upd H h'.objs.size (.tup ys)) { s with heap := h'.push { cls := .type "tuple", data := .seq its.toArray } } :=
      I1.laid (t' := s.toks) (fun b o e => Heap.get?_push_of_some _ e) (Nat.le_refl _) (show ObjOk X.prog X.w _ _ _ (.tup ys) from ⟨hz, its, r', IsTup.new _ _⟩)
    exact ⟨.ref h'.objs.size, _, I2, rfl, q _ (I1.hok.fresh (Nat.le_refl _))⟩
  · obtain ⟨its, r', pl, hz⟩ := I.tuple hq
    exact call_tuple_same pl ⟨.ref p, H, I, rfl, q⟩
def tyV (K : PySem.W.Frag) (T : String) (x : V) (H : Hp) : Prop := match x with
  | .str _ => T = "str"
  | .int _ => T = "int"
  | .ref p => (T = "list" ∧ ∃ xs, SqL K H p xs) ∨ (T = "tuple" ∧ ∃ o, K.lookup p = some o ∧ o.cls = .type "tuple" ∧ o.dict = none) ∨
      (T = "dict" ∧ ((∃ kvs, H p = some (.dK kvs)) ∨ ∃ kvs, H p = some (.dT kvs))) ∨ (T = "set" ∧ ∃ S n, H p = some (.set S n))
  | _ => False
theorem tyV_is {pins : List (Addr × Obj)} {σ : St} {H : Hp} {s : Shared} {T : String} {x : V} {v : Value} (I : Inv X pins σ H s) (r : RelV x v) (ty : tyV X.K T x H) :
    s.TypeIs v T ∧ ∀ a, v = .ref a → ∃ ob, s.heap.get? a = some ob ∧ ob.dict = none := by
  cases x with
  | str z =>
    obtain ⟨t, rfl⟩ := r
    cases (show T = "str" from ty)
    exact ⟨typeIs_str s z t, fun _ e => nomatch e⟩
  | int i =>
    obtain ⟨t, rfl⟩ := r
    cases (show T = "int" from ty)
    exact ⟨typeIs_int s i t, fun _ e => nomatch e⟩
  | ref p =>
    cases r
    rcases ty with ⟨rfl, xs, hq⟩ | ⟨rfl, o, hk, hc, hd⟩ | ⟨rfl, hk⟩ | ⟨rfl, S, n, hk⟩
    · obtain ⟨its, _, pl, _⟩ := I.list hq
      refine ⟨pl.isList.typeIs, fun a e => ?_⟩
      cases e
      obtain ⟨o, n, e, c, hd, _⟩ := pl
      exact ⟨o, e, hd⟩
    · refine ⟨⟨o, I.kIn p o hk, hc⟩, fun a e => ?_⟩
      cases e
      exact ⟨o, I.kIn _ o hk, hd⟩
    · have z : ∃ o, s.heap.get? p = some o ∧ o.ExactDict := by
        rcases hk with ⟨kvs, hk⟩ | ⟨kvs, hk⟩
        · obtain ⟨_, _, _, _, o, _, _, e, ex, _⟩ := I.hok p _ hk
          exact ⟨o, e, ex⟩
        · obtain ⟨_, _, _, _, o, _, _, e, ex, _⟩ := I.hok p _ hk
          exact ⟨o, e, ex⟩
      obtain ⟨o, e, ex⟩ := z
      refine ⟨⟨o, e, ex.1⟩, fun a e2 => ?_⟩
      cases e2
      exact ⟨o, e, ex.2.1⟩
    · obtain ⟨o, _, _, _, e, ex, _⟩ := I.hok p _ hk
      refine ⟨⟨o, e, ex.1⟩, fun a e2 => ?_⟩
      cases e2
      exact ⟨o, e, ex.2.1⟩
  | _ => exact False.elim ty
def tBM (K : PySem.W.Frag) (T : String) (r : V → List V → Hp → VK → Prop) (to : TE) (t : TA) : TE := fun σ H Q => to σ H fun x H1 => tyV K T x H1 ∧ t σ H1 fun xs H2 => r x xs H2 Q
variable {o e : Expr} {es : List Expr} {to : TE} {t : TA} {name : Str} {apos cpos : Pos} {T id : String} {r : V → List V → Hp → VK → Prop}
theorem pe_bm (pa : PlainAttrs T) (slot : Slot T name id) (hty : typeOf (.builtin id) = pure (.type "method_descriptor")) (hm : MtR X id r) (ho : PE X o to) (ha : PA X (e :: es) t)
    (hbase : attributeBase o name X.env (eval o X.env) = eval o X.env := by rfl)
    (hfew : ((backTo cpos (starEach (e :: es) X.env)).all (fun x => !x.1) && (backToKw cpos (keywordEach [] X.env)).all (fun x => x.1.isSome)
      && decide ((e :: es).length + ([] : List Keyword).length + (if ([] : List Keyword).isEmpty then 0 else 1) < 30)) = true := by rfl)
    (hline : (apos.endLine == cpos.line) = true := by rfl) (hs : starEach (e :: es) X.env = (false, eval e X.env) :: starEach es X.env := by rfl) (hplain : (backTo cpos (starEach es X.env)).any (·.1) = false := by rfl) :
    PE X (.Call (.Attribute o name apos) (e :: es) [] cpos) (tBM X.K T r to t) := by
  intro pins s σ H Q I h
  refine wpAny_Call_method_late hbase hfew hline rfl (thn (ho pins s σ H _ I h) fun v s1 ⟨x, H1, I1, r1, ty, q1⟩ => ?_)
  obtain ⟨h1, h2⟩ := tyV_is I1 r1 ty
  refine ⟨T, id, pa, slot, hty, h1, h2, ?_⟩
  have hA := ha cpos pins s1 σ H1 _ I1 q1
  rw [hs] at hA ⊢
  refine Calls.callWith_builtin (by show (false || (backTo cpos (starEach es X.env)).any (·.1)) = false; rw [hplain] <;> rfl) (Calls.evalArgs_plain ?_)
  exact thn hA fun us s2 ⟨vs, H2, I2, r2, q2⟩ => hm pins s2 σ H2 x vs v us Q I2 r1 r2 q2
end
end L2
namespace L2
open PySem PySem.Spec PyProof.Rows
def MtM (X : Cx) (id : String) (r : V → List V → Hp → VK → Prop) : Prop :=
  ∀ (pins : List (Addr × Obj)) (s : Shared) (σ : St) (H : Hp) (x : V) (xs : List V) (v : Value) (us : List Value) (Q : VK), Inv X pins σ H s → RelV x v → Vals xs us → r x xs H Q →
    wpAny (model X.prog X.w) X.A (call (.builtin id) (v :: us)) (EP X pins σ Q) X.xe s
theorem Vals.one : ∀ {x : V} {us : List Value}, Vals [x] us → ∃ u, us = [u] ∧ RelV x u
  | _, _, .cons r .nil => ⟨_, rfl, r⟩
theorem Vals.rep {xs : List V} {us : List Value} (h : Vals xs us) : ∀ k : Nat, Vals (List.replicate k xs).flatten (List.replicate k us).flatten
  | 0 => .nil
  | k + 1 => by
    rw [List.replicate_succ, List.replicate_succ, List.flatten_cons, List.flatten_cons]
    exact Vals.append h (Vals.rep h k)
theorem foldl_rep (its : List Value) : ∀ (k : Nat) (acc : List Value),
    List.foldl (fun x1 x2 => x1 ++ x2) acc.toArray (List.replicate k its.toArray) = (acc ++ (List.replicate k its).flatten).toArray
  | 0, acc => by simp
  | k + 1, acc => by
    have e : acc.toArray ++ its.toArray = (acc ++ its).toArray := by simp
    have e2 : (acc ++ its) ++ (List.replicate k its).flatten = acc ++ (List.replicate (k + 1) its).flatten := by
      rw [List.replicate_succ, List.flatten_cons, List.append_assoc]
    rw [← e2, ← foldl_rep its k (acc ++ its), ← e, List.replicate_succ, List.foldl_cons]
section
variable {X : Cx} {pins : List (Addr × Obj)} {σ : St} {H : Hp} {s : Shared} {l b : Addr} {xs ys zs : List V}
theorem Inv.lset {its its' : List Value} {n : Nat} {f : Array Value → Array Value} {t' : Nat} (I : Inv X pins σ H s) (hH : H l = some (.lst xs))
    (e : s.heap.get? l = some { cls := .type "list", data := .seq its.toArray n }) (hf : f its.toArray = its'.toArray) (hv : Vals ys its') (hz : ys.length ≤ sizeLine) :
    Inv X pins σ (upd H l (.lst ys)) { s with heap := s.heap.update l (Obj.mapSeq f), toks := t' } := by
  have q := PySem.IsL.update e f
  rw [hf] at q
  refine I.write (x := l) (e := l) (by rw [hH]; exact trivial) (.inl rfl) (fun b' u hb hu => (Heap.get?_update_other s.heap (Obj.mapSeq f) (Ne.symm hb)).trans hu) ⟨_, q⟩ ?_
  exact ⟨hz, its', _, hv, q⟩
theorem Inv.lnew {its : List Value} {t' : Nat} (I : Inv X pins σ H s) (hv : Vals ys its) (hz : ys.length ≤ sizeLine) :
    Inv X pins σ (upd H s.heap.objs.size (.lst ys)) { s with heap := s.heap.push { cls := .type "list", data := .seq its.toArray }, toks := t' } :=
  I.laid (fun _ _ q => Heap.get?_push_of_some _ q) (Nat.le_refl _) ⟨hz, its, 0, hv, Heap.get?_push_size _ rfl⟩
theorem Inv.fresh (I : Inv X pins σ H s) : H s.heap.objs.size = none := I.hok.fresh (Nat.le_refl _)
theorem Inv.lstM (I : Inv X pins σ H s) (hH : H l = some (.lst xs)) : xs.length ≤ sizeLine ∧ ∃ (its : List Value) (n : Nat), Vals xs its ∧ xs.length = its.length ∧ s.heap.get? l = some { cls := .type "list", data := .seq its.toArray n } := by
  obtain ⟨z, its, n, r, e⟩ := I.hok l _ hH
  exact ⟨z, its, n, r, r.length, e⟩
theorem notLongL {n : Nat} (h : n ≤ sizeLine) : Builtin.List.listTooLong n = false := by
  unfold Builtin.List.listTooLong
  exact decide_eq_false (by omega)
end
section
variable {X : Cx}
def rAppend : V → List V → Hp → VK → Prop := fun x vs H Q => ∃ l xs y, x = .ref l ∧ vs = [y] ∧ H l = some (.lst xs) ∧ xs.length < sizeLine ∧ Q .non (upd H l (.lst (xs ++ [y])))
theorem mt_append : MtM X "list.append" rAppend := by
  intro pins s σ H x vs v us Q I rx rv h
  obtain ⟨l, xs, y, rfl, rfl, hH, hz, q⟩ := h
  cases rx
  obtain ⟨u, rfl, ru⟩ := rv.one
  obtain ⟨z, its, n, r, hl, e⟩ := I.lstM hH
  refine call_meets F.slot_list_append ⟨_, e, rfl⟩ F.entry_list_append (F.args_list_append_2 _ _) (PySem.list_append l its.toArray n u (by rw [List.size_toArray]; omega)) ⟨e, ?_⟩
  refine ⟨.non, _, I.lset (its' := its ++ [u]) hH e (by simp) (r.append (.cons ru .nil)) ?_, rfl, q⟩
  rw [List.length_append, List.length_singleton]
  omega
def rCat : R2 := fun x y H Q => ∃ l b xs zs, x = .ref l ∧ y = .ref b ∧ H l = some (.lst xs) ∧ H b = some (.lst zs) ∧ xs.length + zs.length ≤ sizeLine ∧ ∀ p, H p = none → Q (.ref p) (upd H p (.lst (xs ++ zs)))
theorem op_cat : OpR X (binaryOp .Add) rCat := by
  intro pins s σ H x y v u Q I rx ry h
  obtain ⟨l, b, xs, zs, rfl, rfl, hH, hB, hz, q⟩ := h
  cases rx
  cases ry
  obtain ⟨z, its, n, r, hl, e⟩ := I.lstM hH
  obtain ⟨z2, its2, n2, r2, hl2, e2⟩ := I.lstM hB
  refine PySem.P.add_list e e2 ?_ (by rw [List.size_toArray, List.size_toArray]; omega)
  have ea : its.toArray ++ its2.toArray = (its ++ its2).toArray := by simp
  rw [ea]
  exact ⟨.ref _, _, I.lnew (t' := s.toks) (r.append r2) (by rw [List.length_append]; omega), rfl, q _ I.fresh⟩
def rRep : R2 := fun x y H Q => ∃ l k xs, x = .ref l ∧ y = .int k ∧ H l = some (.lst xs) ∧ -(2 ^ 63) ≤ k ∧ k < 2 ^ 63 ∧ xs.length * k.toNat ≤ sizeLine ∧
  ∀ p, H p = none → Q (.ref p) (upd H p (.lst (List.replicate k.toNat xs).flatten))
theorem len_rep {α : Type} (xs : List α) (k : Nat) : (List.replicate k xs).flatten.length = k * xs.length := by
  induction k with
  | zero => simp
  | succ k ih => rw [List.replicate_succ, List.flatten_cons, List.length_append, ih, Nat.succ_mul, Nat.add_comm]
theorem op_rep : OpR X (binaryOp .Mult) rRep := by
  intro pins s σ H x y v u Q I rx ry h
  obtain ⟨l, k, xs, rfl, rfl, hH, h1, h2, hz, q⟩ := h
  cases rx
  obtain ⟨t, rfl⟩ := ry
  obtain ⟨z, its, n, r, hl, e⟩ := I.lstM hH
  have hlen : its.toArray.size * k.toNat ≤ sizeLine := by rw [List.size_toArray, ← hl]; exact hz
  have hcap : ¬ its.toArray.size * k.toNat > (2 ^ 63 - 1) / 8 := by
    have : (sizeLine : Nat) ≤ (2 ^ 63 - 1) / 8 := by decide
    omega
  have hfit : ¬ (!Builtin.List.listFitsIndex k) = true := by
    rw [fitsIndex_both h1 h2]
    exact Bool.false_ne_true
  have hlong : ¬ Builtin.List.listTooLong (its.toArray.size * k.toNat) = true := by
    rw [notLongL hlen]
    exact Bool.false_ne_true
  have hnew : List.foldl (fun x1 x2 => x1 ++ x2) #[] (List.replicate (if its.toArray.isEmpty = true then 0 else k.toNat) its.toArray) = (List.replicate k.toNat its).flatten.toArray := by
    have f0 : ∀ m : Nat, List.foldl (fun x1 x2 => x1 ++ x2) #[] (List.replicate m its.toArray) = (List.replicate m its).flatten.toArray := fun m => by
      have := foldl_rep its m []
      rw [List.nil_append] at this
      exact this
    rw [f0]
    cases its with
    | nil => simp
    | cons a r' => rw [if_neg (by simp)]
  refine wpAny_binaryOp_repeat_ref (T := "list") (U := "int") (by decide) ⟨_, e, rfl⟩ (fun s' => typeIs_int s' k t) noFill_list_mul F.fills_int_mul F.slot_int_rmul repeat_list F.slot_int_index.lookup
    (call_meets F.slot_int_rmul (typeIs_int s k t) F.entry_int_rmul (F.args_int_rmul_2 _ _) (int___rmul___int_list k t l its.toArray n)
      ⟨e, rfl, ⟨_, e, rfl⟩, call_meets F.slot_list_mul ⟨_, e, rfl⟩ F.entry_list_mul (F.args_list_mul_2 _ _) (AutoListH.list___mul___list_int_3 l its.toArray n k t hfit hcap hlong) ⟨e, ?_⟩⟩)
  rw [hnew]
  exact ⟨.ref _, _, I.lnew (t' := s.toks) (r.rep k.toNat) (by rw [len_rep, Nat.mul_comm]; exact hz), rfl, q _ I.fresh⟩
end
section
variable {prog : Program} {w : World} {A : Around} {E : Value → Shared → Prop} {s : Shared}
end
section
variable {X : Cx}
end
end L2
namespace Att
open PySem PySem.W PySem.Calls PyProof.Rows
theorem ints_of_wellAll {P : Params} {h : Heap} : ∀ (ns : List Int) (vs : List Value), WellAll P h vs (ns.map WData.int) → IntsAre vs ns := by
  intro ns
  induction ns with
  | nil =>
    intro vs w
    rw [List.map_nil] at w
    cases w
    exact .nil
  | cons n ns ih =>
    intro vs w
    rw [List.map_cons] at w
    cases w with
    | cons a b =>
      cases a
      exact .cons _ _ (ih _ b)
theorem script_of {l : OpenLaw} {n : Nat} (hn : l.most = some n) {P : Params} {h : Heap} {args : List WData} {vals : List Value}
    (hpre : l.row.toRowW.claim.pre args = true) (hwl : WellAll P h vals args) :
    ∃ a vs ns, vals = [Value.ref a] ∧ args = [WData.list (ns.map WData.int)] ∧ h.get? a = some { cls := .type "list", data := .seq vs.toArray } ∧ IntsAre vs ns ∧ ns.length ≤ n := by
  have hsh : WShape.hasAll [] args [.list .int] = true := (pre_splitW hpre).1
  have hc : l.pre.holds [] { args := args } = true := (pre_splitW hpre).2
  obtain ⟨d, r, rfl, h1, h2⟩ := hasAllW_cons hsh
  obtain rfl := hasAllW_nil h2
  obtain ⟨xs, rfl, h3⟩ := hasW_list h1
  obtain ⟨ns, rfl⟩ := items_int h3
  have hlen : ns.length ≤ n := by
    unfold OpenLaw.pre at hc
    have h4 : (WTm.not (.lt (.lit (.int (n : Int))) (.len (.arg 0)))).holds [] { args := [.list (ns.map .int)] } = true := by
      have h4 := (holds_andW hc).1
      rw [hn] at h4
      exact h4
    have h5 := condW_of h4 (w_not (w_lt w_lit (w_len_list (w_arg rfl))))
    rw [List.length_map] at h5
    refine Nat.le_of_not_lt fun q => ?_
    have q' : (n : Int) < ((ns.length : Nat) : Int) := by omega
    first
      | (rw [decide_eq_true q'] at h5; exact absurd h5 (by decide))
      | (simp at h5; omega)
  cases hwl with
  | cons w1 w2 =>
    cases w2
    cases w1 with
    | list ho hall => exact ⟨_, _, ns, rfl, rfl, ho, ints_of_wellAll ns _ hall, hlen⟩
theorem post_true (l : OpenLaw) (args : List WData) : l.row.toRowW.claim.post args (.bool true) args = true :=
  postW_of (r := l.row.toRowW) (X := (true == true))
    (show WShape.has [] (.bool true) .bool = true by first | rfl | decide | simp [WShape.has, WShape.arms, WShape.armsAll])
    (show (WTm.eq .res (.lit (.bool true))).value [] { args := args, res := some (.bool true), after := args } = some (.bool (true == true)) from w_eq_bool (w_res rfl) w_lit) rfl
theorem attach_call {l : OpenLaw} {n : Nat} {q : Program} {loose : List Str} {XP : (Str → Option Value) → Heap → Prop} {YP : World → Heap → Prop} {d : DefRec}
    (hn : l.most = some n) (hdf : d.params.defaults = [])
    (call : ∀ (w : World) (s₀ s₁ : Shared) (mg mb : Str → Option Value) (fa : Addr) (o : Obj) (pm cd doc : Value) (a : Addr) (vs : List Value) (ns : List Int),
      Ground q loose [] XP w s₀ mg mb s₁.heap → YP w s₁.heap →
      s₁.heap.get? fa = some o → o.data = .func (docDef d.name d.params d.body d.scope pm cd doc) → s₁.heap.CodeRec cd d.name → mg d.name = some (.ref fa) →
      s₁.heap.get? a = some { cls := .type "list", data := .seq vs.toArray } → IntsAre vs ns → ns.length ≤ n → s₁.gens = #[] →
      codeAny (model l.prog w) callerA (.call (.ref fa) ⟨[.ref a], []⟩) (fun r s' => r = .ok (.ret (.bool true)) ∧ OldK s₁.heap s'.heap ∧ s'.os = s₁.os ∧ AllBare s'.gens) s₁) :
    WalkO q loose XP YP l.row.toRowW d [] (fun f vs => PySem.call f vs) := by
  intro w s₀ s₁ mg mb G Y fa o pm cd doc dV kV ho hd hcd hD hmg hg args vals as hpre hlay hrd hwl hlo
  obtain rfl : dV = .none := Dflts.none hD hdf
  obtain rfl : kV = .none := Dflts.noKw hD
  obtain ⟨a, vs, ns, rfl, rfl, hobj, hints, hlen⟩ := script_of hn hpre hwl
  refine enter_call (codeAny_mono (call w s₀ s₁ mg mb fa o pm cd doc a vs ns G Y ho (fd_plain hd) hcd hmg hobj hints hlen hg) fun r s' hq => ?_)
  obtain ⟨rfl, h2, h3, h4⟩ := hq
  exact ⟨.inl ⟨.bool true, .bool true, [], rfl, fun _ => rfl, .bool true, post_true l _, fun _ => ⟨List.Pairwise.nil, fun _ hm => (nomatch hm)⟩⟩, h2, h3, h4⟩
section
variable {prog : Program} {w : World} {A : Around} {E : Value → Shared → Prop} {s : Shared} {K : Frag}
end
end Att
namespace L2
open PySem PySem.Spec PyProof.Rows
theorem vals_ints : ∀ {vs : List Value} {ns : List Int}, IntsAre vs ns → Vals (ns.map V.int) vs
  | _, _, .nil => .nil
  | _, _, .cons n t h => .cons ⟨t, rfl⟩ (vals_ints h)
end L2
namespace L2
open PySem PySem.Spec PyProof.Rows
end L2
namespace L2
open PySem PySem.Spec PyProof.Rows
def inClass (s : Stmt) (j : Nat) : Stmt := match s with
  | .ClassDef _ _ _ body _ _ _ _ _ _ _ => body.getD j (.Pass ⟨0, 0, 0, 0⟩)
  | _ => .Pass ⟨0, 0, 0, 0⟩
def defArgs (s : Stmt) : Arguments := match s with
  | .FunctionDef _ a _ _ _ _ _ _ _ _ => a
  | _ => { posonlyargs := [], args := [], vararg := none, kwonlyargs := [], kw_defaults := [], kwarg := none, defaults := [] }
def defBody (s : Stmt) : List Stmt := match s with
  | .FunctionDef _ _ b _ _ _ _ _ _ _ => b
  | _ => []
def defScope (s : Stmt) : Scope := match s with
  | .FunctionDef _ _ _ _ _ _ sc _ _ _ => sc
  | _ => { kind := .function, names := [], isGenerator := false, isCoroutine := false }
abbrev CX0 : CXT := fun _ _ _ _ _ _ => False
abbrev E0 : XK := fun _ _ _ => False
theorem pass0 {X : Cx} : Passes CX0 X E0 := fun _ _ _ _ _ _ _ h => h.elim
structure Fun (K : PySem.W.Frag) (x qual : Str) (st : Stmt) (f : Addr) (fd : FuncData) : Prop where
  ex : ∃ (oc : Value) (od : Option Addr) (kV doc pm : Value) (an : Option Addr) (cdv ct : Value) (osl : Array (Option Value)),
    fd = PySem.W.fnOf x qual (defArgs st) (defBody st) (defScope st) .none kV doc pm an cdv ct ∧ K.lookup f = some ⟨oc, od, .func fd, osl⟩ ∧ PySem.W.codeIn K cdv qual = true
  kp : PySem.W.keepIn K (.ref f) = true
section
variable {P : Program} {w : World} {K : PySem.W.Frag} {mg : Str → Option Value} {base : Heap}
theorem Fun.ok {x qual : Str} {st : Stmt} {f : Addr} {fd : FuncData} {N ps : List Str} {k : Nat} {sp : Sp} (F : Fun K x qual st f fd) (S : FnScope N ps (defScope st)) (len : ∀ vs H Q E, sp vs H Q E → vs.length = ps.length)
    (hbody : ∀ (cdv : Value) (A : Around) (outer : List Env) (s : Shared) (H : Hp) (vs : List V) (Q : VK) (E : XK), Room k (A.deeper (envOfC qual (defScope st) s.heap.objs.size f cdv)) → sp vs H Q E →
      ∃ t, PSs (cxOf CX0 P w K mg base N qual (defScope st) f cdv A outer s H E).nox (defBody st) t ∧ t { nx := fun _ H' => Q .non H', rt := Q } (start N vs) H) : FnOk P w K mg base CX0 (k + 1) f fd ps sp := by
  obtain ⟨oc, od, kV, doc, pm, an, cdv, ct, osl, rfl, lk, hcd⟩ := F.ex
  refine fn_of lk hcd S len fun A outer s H vs Q E hr hsp => ?_
  obtain ⟨t, h, q⟩ := hbody cdv A outer s H vs Q E hr hsp
  exact ⟨t, h.nox, q⟩
theorem Fun.binds {x qual : Str} {st : Stmt} {f : Addr} {fd : FuncData} {ps : List Str} (F : Fun K x qual st f fd)
    (h : ∀ (kV doc pm : Value) (an : Option Addr) (cdv ct : Value) (us : List Value), us.length = ps.length → bindArgs (PySem.W.fnOf x qual (defArgs st) (defBody st) (defScope st) .none kV doc pm an cdv ct) ⟨us, []⟩ = pure (ps.zip us)) : Binds K fd ps [] := by
  obtain ⟨oc, od, kV, doc, pm, an, cdv, ct, osl, rfl, lk, hcd⟩ := F.ex
  exact .all (h kV doc pm an cdv ct)
theorem fun_mk {x qual : Str} {st : Stmt} {f : Addr} {oc : Value} {od an : Option Addr} {osl : Array (Option Value)} {kV doc pm cdv ct : Value} (l : K.lookup f = some ⟨oc, od, .func (PySem.W.fnOf x qual (defArgs st) (defBody st) (defScope st) .none kV doc pm an cdv ct), osl⟩)
    (c : PySem.W.codeIn K cdv qual = true) (k : PySem.W.keepIn K (.ref f) = true) : Fun K x qual st f (PySem.W.fnOf x qual (defArgs st) (defBody st) (defScope st) .none kV doc pm an cdv ct) := ⟨⟨oc, od, kV, doc, pm, an, cdv, ct, osl, rfl, l, c⟩, k⟩
end
theorem hu_of {A : Around} {k : Nat} (hr : Room k A) : A.units + 1 < cLine := Nat.lt_of_le_of_lt (Nat.add_le_add_left (by decide : 1 ≤ 64) _) hr.units
theorem small1000 {n : Nat} (h : n ≤ 1000) : n < sizeLine := Nat.lt_of_le_of_lt h (by decide)
section
variable {X : Cx}
theorem pv (i : Nat) {x : Str} {pos : Pos} (hN : X.N[i]? = some x := by rfl) (hv : Vis X.env.scope x := by first | exact Or.inl rfl | exact Or.inr (Or.inl rfl) | exact Or.inr (Or.inr rfl)) (hd : (x == ("__debug__" : Str)) = false := by decide)
    (hcd : (x == ("__classdict__" : Str)) = false := by decide) : PE X (.Name x pos) (tVar i) := pe_var hN hv hd hcd
end
theorem iteF {A B : Prop} (h : B) : if false = true then A else B := by
  rw [if_neg Bool.false_ne_true]
  exact h
theorem iteT {A B : Prop} (h : A) : if true = true then A else B := by
  rw [if_pos rfl]
  exact h
theorem ite2 {c A B : Prop} [Decidable c] (h1 : c → A) (h2 : ¬ c → B) : if c then A else B := by
  by_cases h : c
  · rw [if_pos h]
    exact h1 h
  · rw [if_neg h]
    exact h2 h
theorem iteNS {c A B : Prop} [Decidable c] (hc : c) (h : B) : if (!decide c) = true then A else B := by
  rw [decide_eq_true hc]
  exact iteF h
def Same (H H' : Hp) : Prop := ∀ b o, H b = some o → H' b = some o
theorem Same.refl (H : Hp) : Same H H := fun _ _ h => h
theorem Same.trans {H H1 H2 : Hp} (a : Same H H1) (b : Same H1 H2) : Same H H2 := fun c o h => b c o (a c o h)
theorem Same.free {H H' : Hp} (e : Same H H') {l : Addr} (h : H' l = Option.none) : H l = Option.none := by
  cases q : H l with
  | none => rfl
  | some o =>
    rw [e l o q] at h
    cases h
theorem Same.seq {K : PySem.W.Frag} {H H' : Hp} {a : Addr} {xs : List V} (e : Same H H') (h : SqL K H a xs) : SqL K H' a xs := by
  rcases h with (h | ⟨o, h⟩) | h
  · exact .inl (.inl (e _ _ h))
  · exact .inl (.inr ⟨o, e _ _ h⟩)
  · exact .inr h
end L2
namespace L2
open PySem PySem.Spec PyProof.Rows
section
variable {κ : Type} [DecidableEq κ]
def valV (kvs : List (κ × V)) (k : κ) : Option V := (kvs.find? fun kv => decide (kv.1 = k)).map (·.2)
def putK (kvs : List (κ × V)) (k : κ) (v : V) : List (κ × V) :=
  if (kvs.any fun kv => decide (kv.1 = k)) = true then kvs.map (fun kv => if kv.1 = k then (kv.1, v) else kv) else kvs ++ [(k, v)]
def dropK (kvs : List (κ × V)) (k : κ) : List (κ × V) := kvs.filter fun kv => decide (kv.1 ≠ k)
theorem valV_nil {k : κ} : valV ([] : List (κ × V)) k = none := rfl
theorem valV_pos {p : κ × V} {r : List (κ × V)} {k : κ} (e : p.1 = k) : valV (p :: r) k = some p.2 := by simp [valV, List.find?_cons, e]
theorem valV_neg {p : κ × V} {r : List (κ × V)} {k : κ} (e : ¬ p.1 = k) : valV (p :: r) k = valV r k := by simp [valV, List.find?_cons, e]
theorem valV_any (k : κ) : ∀ kvs : List (κ × V), (kvs.any fun kv => decide (kv.1 = k)) = (valV kvs k).isSome
  | [] => rfl
  | p :: r => by
    rw [List.any_cons]
    by_cases e : p.1 = k
    · simp only [valV_pos e, decide_eq_true e, Bool.true_or, Option.isSome_some]
    · rw [valV_neg e, decide_eq_false e, Bool.false_or]; exact valV_any k r
theorem valV_map (k j : κ) (y : V) : ∀ kvs : List (κ × V), valV (kvs.map fun kv => if kv.1 = k then (kv.1, y) else kv) j = (valV kvs j).map fun x => if j = k then y else x
  | [] => rfl
  | p :: r => by
    have ih := valV_map k j y r
    rw [List.map_cons]
    by_cases h : p.1 = k
    · rw [if_pos h]
      by_cases e : p.1 = j
      · rw [valV_pos (p := (p.1, y)) e, valV_pos e, Option.map_some, if_pos (e.symm.trans h)]
      · rw [valV_neg (p := (p.1, y)) e, valV_neg e, ih]
    · rw [if_neg h]
      by_cases e : p.1 = j
      · rw [valV_pos (p := p) e, valV_pos e, Option.map_some, if_neg (fun z => h (e.trans z))]
      · rw [valV_neg (p := p) e, valV_neg e, ih]
theorem valV_snoc (k j : κ) (y : V) : ∀ kvs : List (κ × V), valV kvs k = none → valV (kvs ++ [(k, y)]) j = if j = k then some y else valV kvs j
  | [], _ => by
    by_cases e : k = j
    · rw [if_pos e.symm]; exact valV_pos (p := (k, y)) e
    · rw [if_neg (fun z => e z.symm)]; exact valV_neg (p := (k, y)) e
  | p :: r, hn => by
    rw [List.cons_append]
    have hk : ¬ p.1 = k := fun z => by rw [valV_pos z] at hn; cases hn
    rw [valV_neg hk] at hn
    have ih := valV_snoc k j y r hn
    by_cases e : p.1 = j
    · rw [valV_pos e, valV_pos e, if_neg (fun z => hk (e.trans z))]
    · rw [valV_neg e, valV_neg e, ih]
theorem valV_put (kvs : List (κ × V)) (k j : κ) (y : V) : valV (putK kvs k y) j = if j = k then some y else valV kvs j := by
  unfold putK
  by_cases a : (kvs.any fun kv => decide (kv.1 = k)) = true
  · rw [if_pos a, valV_map]
    rw [valV_any] at a
    by_cases e : j = k
    · obtain ⟨x, hx⟩ := Option.isSome_iff_exists.mp a
      rw [if_pos e, e, hx, Option.map_some, if_pos rfl]
    · rw [if_neg e]
      cases valV kvs j with
      | none => rfl
      | some x => rw [Option.map_some, if_neg e]
  · rw [if_neg a]
    refine valV_snoc k j y kvs ?_
    rw [valV_any] at a
    cases q : valV kvs k with
    | none => rfl
    | some x => rw [q] at a; exact (a rfl).elim
theorem length_putK (kvs : List (κ × V)) (k : κ) (v : V) : (putK kvs k v).length ≤ kvs.length + 1 := by
  unfold putK
  split
  · rw [List.length_map]; omega
  · rw [List.length_append, List.length_cons, List.length_nil]; omega
theorem RelO.isSome_eq {o : Option V} {u : Option Value} (r : RelO o u) : o.isSome = u.isSome := by
  cases o with
  | none => cases u with
    | none => rfl
    | some _ => exact (show False from r).elim
  | some _ => cases u with
    | none => exact (show False from r).elim
    | some _ => rfl
theorem RelO.getD {o : Option V} {u : Option Value} {d : V} {d' : Value} (r : RelO o u) (rd : RelV d d') : RelV (o.getD d) (u.getD d') := by
  cases o with
  | none => cases u with
    | none => exact rd
    | some _ => exact (show False from r).elim
  | some _ => cases u with
    | none => exact (show False from r).elim
    | some _ => exact r
theorem KV.val {kvs : List (κ × V)} {vs : List (κ × Value)} (r : KV kvs vs) (k : κ) : RelO (valV kvs k) (valueAt vs k) := by
  unfold KV at r
  induction r with
  | nil => exact True.intro
  | @cons p q ps qs h t ih =>
    obtain ⟨h1, h2⟩ := h
    by_cases e : p.1 = k
    · have e' : q.1 = k := h1.symm.trans e
      have b : valueAt (q :: qs) k = some q.2 := by simp [valueAt, List.find?_cons, e']
      rw [valV_pos e, b]; exact h2
    · have e' : ¬ q.1 = k := fun z => e (h1.trans z)
      have b : valueAt (q :: qs) k = valueAt qs k := by simp [valueAt, List.find?_cons, e']
      rw [valV_neg e, b]; exact ih
theorem KV.any {kvs : List (κ × V)} {vs : List (κ × Value)} (r : KV kvs vs) (k : κ) : (kvs.any fun kv => decide (kv.1 = k)) = vs.any fun kv => decide (kv.1 = k) := by
  unfold KV at r
  induction r with
  | nil => rfl
  | cons h t ih => rw [List.any_cons, List.any_cons, ih, h.1]
theorem KV.repl {kvs : List (κ × V)} {vs : List (κ × Value)} (r : KV kvs vs) (k : κ) {y : V} {u : Value} (ry : RelV y u) :
    KV (kvs.map fun kv => if kv.1 = k then (kv.1, y) else kv) (vs.map fun kv => if kv.1 = k then (kv.1, u) else kv) := by
  unfold KV at r ⊢
  induction r with
  | nil => exact .nil
  | @cons p q ps qs h t ih =>
    rw [List.map_cons, List.map_cons]
    refine .cons ?_ ih
    obtain ⟨h1, h2⟩ := h
    by_cases e : p.1 = k
    · rw [if_pos e, if_pos (h1.symm.trans e)]; exact ⟨h1, ry⟩
    · rw [if_neg e, if_neg (fun z => e (h1.trans z))]; exact ⟨h1, h2⟩
theorem KV.put {kvs : List (κ × V)} {vs : List (κ × Value)} (r : KV kvs vs) (k : κ) {y : V} {u : Value} (ry : RelV y u) : KV (putK kvs k y) (stored vs k u) := by
  unfold putK stored
  rw [r.any k]
  by_cases e : (vs.any fun kv => decide (kv.1 = k)) = true
  · rw [if_pos e, if_pos e]; exact r.repl k ry
  · rw [if_neg e, if_neg e]; exact Paired.snoc r ⟨rfl, ry⟩
theorem KV.drop {kvs : List (κ × V)} {vs : List (κ × Value)} (r : KV kvs vs) (k : κ) : KV (dropK kvs k) (without vs k) := by
  unfold KV at r ⊢
  unfold dropK without
  induction r with
  | nil => exact .nil
  | @cons p q ps qs h t ih =>
    obtain ⟨h1, h2⟩ := h
    rw [List.filter_cons, List.filter_cons]
    by_cases e : p.1 = k
    · have a : ¬ decide (p.1 ≠ k) = true := by simp [e]
      have b : ¬ decide (q.1 ≠ k) = true := by simp [h1.symm.trans e]
      rw [if_neg a, if_neg b]; exact ih
    · have e' : ¬ q.1 = k := fun z => e (h1.trans z)
      have a : decide (p.1 ≠ k) = true := by simp [e]
      have b : decide (q.1 ≠ k) = true := by simp [e']
      rw [if_pos a, if_pos b]; exact .cons ⟨h1, h2⟩ ih
theorem KV.length {kvs : List (κ × V)} {vs : List (κ × Value)} (r : KV kvs vs) : kvs.length = vs.length := Paired.length r
theorem dropK_le (kvs : List (κ × V)) (k : κ) : (dropK kvs k).length ≤ kvs.length := List.length_filter_le _ _
end
theorem kV_is {P : Program} {w : World} {k : Key} {u : Value} (r : RelV (kV k) u) : (mixKind P w).is k u = true := by
  cases k with
  | inl i => obtain ⟨t, e⟩ := (show ∃ t, u = Value.int i t from r); subst e; exact mixKind_int P w i t
  | inr x => obtain ⟨t, e⟩ := (show ∃ t, u = Value.str x t from r); subst e; exact mixKind_str P w x t
theorem items_are {P : Program} {w : World} : ∀ {ks : List Key} {us : List Value}, Vals (ks.map kV) us → ItemsAre (mixKind P w) ks us
  | [], _, r => by rw [List.map_nil] at r; cases r; exact .nil
  | k :: ks, _, r => by
    rw [List.map_cons] at r
    cases r with
    | cons h t => exact .cons (kV_is h) (items_are t)
abbrev KT (H : Hp) : List (List Key × V) → List (List Key × Addr × Value) → Prop := Paired fun p q => p.1 = q.1 ∧ H q.2.1 = some (.tup (p.1.map kV)) ∧ RelV p.2 q.2.2
theorem KT.val {H : Hp} {kvs : List (List Key × V)} {xs : List (List Key × Addr × Value)} (r : KT H kvs xs) (k : List Key) : RelO (valV kvs k) ((atKey xs k).map (·.2)) := by
  induction r with
  | nil => exact True.intro
  | @cons p q ps qs h t ih =>
    obtain ⟨h1, _, h2⟩ := h
    by_cases e : p.1 = k
    · have e' : q.1 = k := h1.symm.trans e
      have b : atKey (q :: qs) k = some q.2 := by simp [atKey, List.find?_cons, e']
      rw [valV_pos e, b]; exact h2
    · have e' : ¬ q.1 = k := fun z => e (h1.trans z)
      have b : atKey (q :: qs) k = atKey qs k := by simp [atKey, List.find?_cons, e']
      rw [valV_neg e, b]; exact ih
theorem KT.repl {H : Hp} {kvs : List (List Key × V)} {xs : List (List Key × Addr × Value)} (r : KT H kvs xs) (k : List Key) {y : V} {u : Value} (ry : RelV y u) :
    KT H (kvs.map fun kv => if kv.1 = k then (kv.1, y) else kv) (xs.map (putAt k u)) := by
  induction r with
  | nil => exact .nil
  | @cons p q ps qs h t ih =>
    rw [List.map_cons, List.map_cons]
    refine .cons ?_ ih
    obtain ⟨h1, h2, h3⟩ := h
    unfold putAt
    by_cases e : p.1 = k
    · rw [if_pos e, if_pos (h1.symm.trans e)]; exact ⟨h1, h2, ry⟩
    · rw [if_neg e, if_neg (fun z => e (h1.trans z))]; exact ⟨h1, h2, h3⟩
theorem KT.put {H : Hp} {kvs : List (List Key × V)} {xs : List (List Key × Addr × Value)} (r : KT H kvs xs) (k : List Key) {b : Addr} {y : V} {u : Value} (hb : H b = some (.tup (k.map kV))) (ry : RelV y u) :
    KT H (putK kvs k y) (storedH xs k b u) := by
  have e : (kvs.any fun kv => decide (kv.1 = k)) = (atKey xs k).isSome := by
    rw [valV_any, (r.val k).isSome_eq, Option.isSome_map]
  unfold putK storedH
  rw [e]
  by_cases q : (atKey xs k).isSome = true
  · rw [if_pos q, if_pos q]; exact r.repl k ry
  · rw [if_neg q, if_neg q]; exact Paired.snoc r ⟨rfl, hb, ry⟩
theorem KT.keeps {H H' : Hp} {kvs : List (List Key × V)} {xs : List (List Key × Addr × Value)} (r : KT H kvs xs) (ht : ∀ b ys, H b = some (.tup ys) → H' b = some (.tup ys)) : KT H' kvs xs :=
  Paired.mapP r fun _ _ z => ⟨z.1, ht _ _ z.2.1, z.2.2⟩
section
variable {P : Program} {w : World} {H : Hp} {h : Heap} {a : Addr}
theorem rd_of {u : HO} (ok : HOk P w H h) (e : Rd H a u) : ObjOk P w H h a u := e.ok ok
theorem dk_rd {kvs : List (Key × V)} (ok : HOk P w H h) (e : Rd H a (.dK kvs)) : kvs.length ≤ sizeLine ∧ (a == sysModules) = false ∧ ∃ vs, KV kvs vs ∧ h.DictOf (mixKind P w) a vs :=
  show ObjOk P w H h a (.dK kvs) from rd_of ok e
theorem dk_of {kvs : List (Key × V)} (ok : HOk P w H h) (e : H a = some (.dK kvs)) : kvs.length ≤ sizeLine ∧ (a == sysModules) = false ∧ ∃ vs, KV kvs vs ∧ h.DictOf (mixKind P w) a vs := dk_rd ok (.inl e)
theorem key_of {ks : List Key} (ok : HOk P w H h) (e : H a = some (.tup (ks.map kV))) : (tupleKind (mixKind P w)).is h ks a := by
  obtain ⟨_, its, r, o, h1, h2, n, h3⟩ := (show ObjOk P w H h a (.tup (ks.map kV)) from ok a _ e)
  exact ⟨o, its.toArray, n, h1, h2, h3, by simpa using items_are r⟩
theorem dt_rd {kvs : List (List Key × V)} (ok : HOk P w H h) (e : Rd H a (.dT kvs)) : kvs.length ≤ sizeLine ∧ (a == sysModules) = false ∧
    ∃ xs, KT H kvs xs ∧ h.DictOfH (tupleKind (mixKind P w)) a xs := by
  obtain ⟨z, y, xs, r, o, es, ep, h1, h2, h3, h4, h5⟩ := (show ObjOk P w H h a (.dT kvs) from rd_of ok e)
  refine ⟨z, y, xs, r, o, es, ep, h1, h2, h3, h4, fun x hx => ?_, h5⟩
  have all : ∀ {l : List (List Key × V)} {m : List (List Key × Addr × Value)}, KT H l m → ∀ x ∈ m, (tupleKind (mixKind P w)).is h x.1 x.2.1 := by
    intro l m q
    induction q with
    | nil => intro x hx; exact nomatch hx
    | @cons p q ps qs hq t ih =>
      intro x hx
      rcases List.mem_cons.mp hx with e | hx
      · subst e
        exact key_of ok (by rw [← hq.1]; exact hq.2.1)
      · exact ih x hx
  exact all r x hx
theorem dt_of {kvs : List (List Key × V)} (ok : HOk P w H h) (e : H a = some (.dT kvs)) : kvs.length ≤ sizeLine ∧ (a == sysModules) = false ∧
    ∃ xs, KT H kvs xs ∧ h.DictOfH (tupleKind (mixKind P w)) a xs := dt_rd ok (.inl e)
end
def DGet (H : Hp) (a : Addr) (y : V) (r : Option V) : Prop :=
  (∃ kvs k, Rd H a (.dK kvs) ∧ y = kV k ∧ r = valV kvs k) ∨ ∃ kvs k b, Rd H a (.dT kvs) ∧ y = .ref b ∧ H b = some (.tup (k.map kV)) ∧ r = valV kvs k
def DPut (H : Hp) (a : Addr) (y v : V) (H' : Hp) : Prop :=
  (∃ kvs k, H a = some (.dK kvs) ∧ y = kV k ∧ kvs.length < sizeLine ∧ H' = upd H a (.dK (putK kvs k v))) ∨
  ∃ kvs k b, H a = some (.dT kvs) ∧ y = .ref b ∧ H b = some (.tup (k.map kV)) ∧ kvs.length < sizeLine ∧ H' = upd H a (.dT (putK kvs k v))
theorem DGet.k {H : Hp} {a : Addr} {kvs : List (Key × V)} {k : Key} (e : H a = some (.dK kvs)) : DGet H a (kV k) (valV kvs k) := .inl ⟨kvs, k, .inl e, rfl, rfl⟩
theorem DPut.k {H : Hp} {a : Addr} {kvs : List (Key × V)} {k : Key} {v : V} (e : H a = some (.dK kvs)) (hl : kvs.length < sizeLine) : DPut H a (kV k) v (upd H a (.dK (putK kvs k v))) := .inl ⟨kvs, k, e, rfl, hl, rfl⟩
section
variable {X : Cx} {pins : List (Addr × Obj)} {σ : St} {H : Hp} {s : Shared} {a : Addr} {y v : V} {u r : Value} {o : Option V} {A : Around} {E : Value → Shared → Prop}
theorem Inv.big (I : Inv X pins σ H s) : sysModules < s.heap.objs.size := by
  have h : mainGlobals < s.heap.objs.size := (I.mod.glob.keeps I.bk).lt
  exact Nat.lt_trans (by decide) h
theorem d_getItem {Q : Value → Shared → Prop} (hu : A.units + 1 < cLine) (I : Inv X pins σ H s) (g : DGet H a y (some v)) (ry : RelV y u) (h : ∀ w' s', Inv X pins σ H s' → RelV v w' → Q w' s') :
    wpAny (model X.prog X.w) A (getItem (.ref a) u) Q E s := by
  rcases g with ⟨kvs, k, e, ey, l⟩ | ⟨kvs, k, b, e, ey, eb, l⟩
  · subst ey
    obtain ⟨z, hd, vs, rel, dd⟩ := dk_rd I.hok e
    obtain ⟨w', hw, rw'⟩ := RelO.some_of (v := v) (o := valueAt vs k) (by rw [l]; exact rel.val k)
    exact wpAny_getItem_of (kV_is ry) dd.mapOf hw (h w' _ (I.tok _) rw')
  · subst ey
    cases (show u = Value.ref b from ry)
    obtain ⟨z, hd, xs, rel, dd⟩ := dt_rd I.hok e
    obtain ⟨w', hw, rw'⟩ := RelO.some_of (v := v) (o := (atKey xs k).map (·.2)) (by rw [l]; exact rel.val k)
    obtain ⟨p, hp, hp2⟩ := Option.map_eq_some_iff.mp hw
    refine wpAny_getItem_heap (tupleKind_room_in1 hu) (key_of I.hok eb) dd hp ?_
    rw [hp2]
    exact h w' _ (I.tok _) rw'
theorem d_in {Q : Value → Shared → Prop} (hu : A.units + 1 < cLine) (I : Inv X pins σ H s) (g : DGet H a y o) (ry : RelV y u) (h : ∀ s', Inv X pins σ H s' → Q (.bool o.isSome) s') :
    wpAny (model X.prog X.w) A (compareOp .In u (.ref a)) Q E s := by
  rcases g with ⟨kvs, k, e, ey, l⟩ | ⟨kvs, k, b, e, ey, eb, l⟩
  · subst ey
    obtain ⟨z, hd, vs, rel, dd⟩ := dk_rd I.hok e
    refine wpAny_in_of (kV_is ry) hd dd.mapOf ?_
    rw [← (rel.val k).isSome_eq, ← l]
    exact h _ (I.tok _)
  · subst ey
    cases (show u = Value.ref b from ry)
    obtain ⟨z, hd, xs, rel, dd⟩ := dt_rd I.hok e
    refine wpAny_in_heap (tupleKind_room_in1 hu) (key_of I.hok eb) hd dd ?_
    have q := (rel.val k).isSome_eq
    rw [Option.isSome_map] at q
    rw [← q, ← l]
    exact h _ (I.tok _)
theorem d_notIn {Q : Value → Shared → Prop} (hu : A.units + 1 < cLine) (I : Inv X pins σ H s) (g : DGet H a y o) (ry : RelV y u) (h : ∀ s', Inv X pins σ H s' → Q (.bool (!o.isSome)) s') :
    wpAny (model X.prog X.w) A (compareOp .NotIn u (.ref a)) Q E s := by
  rcases g with ⟨kvs, k, e, ey, l⟩ | ⟨kvs, k, b, e, ey, eb, l⟩
  · subst ey
    obtain ⟨z, hd, vs, rel, dd⟩ := dk_rd I.hok e
    refine wpAny_notIn_of (kV_is ry) hd dd.mapOf ?_
    rw [← (rel.val k).isSome_eq, ← l]
    exact h _ (I.tok _)
  · subst ey
    cases (show u = Value.ref b from ry)
    obtain ⟨z, hd, xs, rel, dd⟩ := dt_rd I.hok e
    refine wpAny_notIn_heap (tupleKind_room_in1 hu) (key_of I.hok eb) hd dd ?_
    have q := (rel.val k).isSome_eq
    rw [Option.isSome_map] at q
    rw [← q, ← l]
    exact h _ (I.tok _)
theorem d_write {h' : Heap} {t' : Nat} {ob : HO} (I : Inv X pins σ H s) (mu : Mut (H a)) (hs : Heap.SameBut a s.heap h') (he : ∃ q, h'.get? a = some q) (new : ObjOk X.prog X.w (upd H a ob) h' a ob) :
    Inv X pins σ (upd H a ob) { s with heap := h', toks := t' } :=
  I.write (x := a) (e := a) mu (.inl rfl) (fun b q hb z => (hs.2 b hb).trans z) he new
theorem dk_new {P : Program} {w : World} {H' : Hp} {h' : Heap} {kvs : List (Key × V)} {vs : List (Key × Value)} (z : kvs.length ≤ sizeLine) (hd : (a == sysModules) = false) (rel : KV kvs vs) (dd : h'.DictOf (mixKind P w) a vs) :
    ObjOk P w H' h' a (.dK kvs) := ⟨z, hd, vs, rel, dd⟩
theorem d_setItem {H' : Hp} {Q : Unit → Shared → Prop} (hu : A.units + 1 < cLine) (I : Inv X pins σ H s) (g : DPut H a y v H') (ry : RelV y u) (rv : RelV v r) (h : ∀ s', Inv X pins σ H' s' → Q () s') :
    wpAny (model X.prog X.w) A (setItem (.ref a) u r) Q E s := by
  rcases g with ⟨kvs, k, e, ey, l, eH⟩ | ⟨kvs, k, b, e, ey, eb, l, eH⟩
  · subst ey eH
    obtain ⟨z, hd, vs, rel, dd⟩ := dk_of I.hok e
    have hz : vs.length ≤ sizeLine := by rw [← rel.length]; exact z
    have hl : (putK kvs k v).length ≤ sizeLine := by have := length_putK kvs k v; omega
    refine wpAny_setItem_pairs (hsz := hz) (kV_is ry) dd fun h' dd' hs => h _ ?_
    have he : ∃ q, h'.get? a = some q := let ⟨q, _, _, hq, _⟩ := dd'; ⟨q, hq⟩
    exact d_write I (by rw [e]; exact True.intro) hs he (dk_new hl hd (rel.put k rv) dd')
  · subst ey eH
    cases (show u = Value.ref b from ry)
    obtain ⟨z, hd, xs, rel, dd⟩ := dt_of I.hok e
    have hz : xs.length ≤ sizeLine := by rw [← Paired.length rel]; exact z
    have hl : (putK kvs k v).length ≤ sizeLine := by have := length_putK kvs k v; omega
    refine wpAny_setItem_heap (hsz := hz) (tupleKind_room_in1 hu) (key_of I.hok eb) dd fun h' dd' hs => h _ ?_
    obtain ⟨q, es, ep, hq, h2, h3, h4, _, h5⟩ := dd'
    refine d_write I (by rw [e]; exact True.intro) hs ⟨q, hq⟩ ⟨hl, hd, _, (rel.put k eb rv).keeps fun c ys ec => ?_, q, es, ep, hq, h2, h3, h4, h5⟩
    rw [upd_ne (ne_of ec e (fun z => nomatch z))]
    exact ec
end
section
variable {X : Cx} {pins : List (Addr × Obj)} {σ : St} {H : Hp} {s : Shared} {a : Addr} {kvs : List (Key × V)} {k : Key} {u : Value} {A : Around} {E : Value → Shared → Prop}
theorem d_pop {v : V} {more : List Value} {Q : Value → Shared → Prop} (I : Inv X pins σ H s) (e : H a = some (.dK kvs)) (ry : RelV (kV k) u) (l : valV kvs k = some v) (hm : more = [] ∨ ∃ x, more = [x])
    (h : ∀ w' s', Inv X pins σ (upd H a (.dK (dropK kvs k))) s' → RelV v w' → Q w' s') : wpAny (model X.prog X.w) A (call (.builtin "dict.pop") (.ref a :: u :: more)) Q E s := by
  obtain ⟨z, hd, vs, rel, dd⟩ := dk_of I.hok e
  obtain ⟨w', hw, rw'⟩ := RelO.some_of (v := v) (o := valueAt vs k) (by rw [← l]; exact rel.val k)
  have hp : (keyPart u).isSome = true := by
    cases k with
    | inl i => obtain ⟨t, q⟩ := (show ∃ t, u = Value.int i t from ry); subst q; rfl
    | inr x => obtain ⟨t, q⟩ := (show ∃ t, u = Value.str x t from ry); subst q; rfl
  have ha : argsOk "dict.pop" ⟨.ref a :: u :: more, []⟩ := by
    rcases hm with q | ⟨x, q⟩
    · subst q; exact PySem.F.args_dict_pop_2 _ _
    · subst q; exact PySem.F.args_dict_pop_3 _ _ _
  refine call_meetsIn PySem.F.slot_dict_pop dd.typeIs PySem.F.entry_dict_pop ha (meets_dict_pop_there (mixKind X.prog X.w) a (kV_is ry) more hm hp)
    ⟨vs, w', dd, by rw [← rel.length]; exact z, hw, fun h' dd' hs => h w' _ ?_ rw'⟩
  have he : ∃ q, h'.get? a = some q := let ⟨q, _, _, hq, _⟩ := dd'; ⟨q, hq⟩
  exact d_write I (by rw [e]; exact True.intro) hs he (dk_new (Nat.le_trans (dropK_le kvs k) z) hd (rel.drop k) dd')
end
def NoSl (i : Expr) : Prop := ∀ ov iv, subscripted i false ov iv = operate [ov, iv] (getItem ov iv)
theorem subD_of {prog : Program} {w : World} {A : Around} {E : Value → Shared → Prop} {s : Shared} {env : Env} {value slice : Expr} {pos : Pos} {T id : String} {Q : Value → Shared → Prop}
    (hl : typeLookup (.type T) "__getitem__" = pure (some (.builtin id))) (hs : NoSl slice)
    (h : wpAny (model prog w) A (eval value env) (fun o s₁ => wpAny (model prog w) A (eval slice env) (fun i s₂ => s₂.TypeIs o T ∧ wpAny (model prog w) A (getItem o i) Q E s₂) E s₁) E s) :
    wpAny (model prog w) A (eval (.Subscript value slice pos) env) Q E s := by
  refine Subscript_ (wpAny_mono h (fun o s₁ h₁ => wpAny_mono h₁ (fun i s₂ h₂ => ?_) fun _ _ x => x) fun _ _ x => x)
  obtain ⟨hT, h₂⟩ := h₂
  unfold subscriptTail
  refine wpAny_bind ?_
  rw [getitemInPython_of_ne hT.not_modules]
  refine wpAny_bind (wpAny_specialOf hT hl ?_)
  have fin : wpAny (model prog w) A (subscripted slice false o i) (fun r s₃ => wpAny (model prog w) A (letTemporaryGo value o r >>= fun _ => pure r) Q E s₃) E s₂ := by
    rw [hs o i]
    exact wpAny_operating (wpAny_mono h₂ (fun r s₃ h₃ => wpAny_bind (wpAny_letTemporaryGo (wpAny_pure h₃))) fun _ _ x => x)
  first
    | exact wpAny_pure (wpAny_bind fin)
    | exact wpAny_bind (wpAny_pure (wpAny_bind fin))
    | exact wpAny_bind fin
theorem dict_typeIs {X : Cx} {pins : List (Addr × Obj)} {σ : St} {H : Hp} {s : Shared} {a : Addr} {y : V} {o : Option V} (I : Inv X pins σ H s) (g : DGet H a y o) : s.TypeIs (.ref a) "dict" := by
  rcases g with ⟨kvs, k, e, _, _⟩ | ⟨kvs, k, b, e, _, _, _⟩
  · obtain ⟨_, _, vs, _, dd⟩ := dk_rd I.hok e
    exact dd.typeIs
  · obtain ⟨_, _, xs, _, dd⟩ := dt_rd I.hok e
    exact dd.typeIs
def tDGet (td ty : TE) : TE := fun σ H Q => td σ H fun x H1 => ty σ H1 fun y H2 => ∃ a v, x = .ref a ∧ DGet H2 a y (some v) ∧ Q v H2
def tDIn (ty td : TE) : TE := fun σ H Q => ty σ H fun y H1 => td σ H1 fun x H2 => ∃ a o, x = .ref a ∧ DGet H2 a y o ∧ Q (.bl o.isSome) H2
def tDNotIn (ty td : TE) : TE := fun σ H Q => ty σ H fun y H1 => td σ H1 fun x H2 => ∃ a o, x = .ref a ∧ DGet H2 a y o ∧ Q (.bl (!o.isSome)) H2
def sDPut (td ty tv : TE) : TS := fun D σ H => tv σ H fun v H1 => td σ H1 fun x H2 => ty σ H2 fun y H3 => ∃ a H4, x = .ref a ∧ DPut H3 a y v H4 ∧ D.nx σ H4
section
variable {X : Cx} {o i e value : Expr} {pos pos' tpos : Pos} {td ty tv : TE}
theorem pe_dget (hu : X.A.units + 1 < cLine) (ho : PE X o td) (hi : PE X i ty) (hs : NoSl i) : PE X (.Subscript o i pos) (tDGet td ty) := by
  intro pins s σ H Q I h
  refine subD_of PySem.F.slot_dict_getitem.lookup hs (thn (ho pins s σ H _ I h) fun u s1 ⟨x, H1, I1, rx, q1⟩ => thn (hi pins s1 σ H1 _ I1 q1) fun iv s2 ⟨y, H2, I2, ry, a, v, ex, g, q2⟩ => ?_)
  subst ex
  obtain rfl : u = Value.ref a := rx
  exact ⟨dict_typeIs I2 g, d_getItem hu I2 g ry fun w' s3 I3 rw' => ⟨v, H2, I3, rw', q2⟩⟩
theorem pc_din (hu : X.A.units + 1 < cLine) (hi : PE X i ty) (ho : PE X o td) : PC X .In i o (tDIn ty td) := by
  intro pins s σ H Q I h
  refine thn (hi pins s σ H _ I h) fun iv s1 ⟨y, H1, I1, ry, q1⟩ => thn (ho pins s1 σ H1 _ I1 q1) fun u s2 ⟨x, H2, I2, rx, a, ov, ex, g, q2⟩ => ?_
  subst ex
  obtain rfl : u = Value.ref a := rx
  exact d_in hu I2 g ry fun s3 I3 => ⟨.bl ov.isSome, H2, I3, rfl, q2⟩
theorem pc_dnotin (hu : X.A.units + 1 < cLine) (hi : PE X i ty) (ho : PE X o td) : PC X .NotIn i o (tDNotIn ty td) := by
  intro pins s σ H Q I h
  refine thn (hi pins s σ H _ I h) fun iv s1 ⟨y, H1, I1, ry, q1⟩ => thn (ho pins s1 σ H1 _ I1 q1) fun u s2 ⟨x, H2, I2, rx, a, ov, ex, g, q2⟩ => ?_
  subst ex
  obtain rfl : u = Value.ref a := rx
  exact d_notIn hu I2 g ry fun s3 I3 => ⟨.bl (!ov.isSome), H2, I3, rfl, q2⟩
theorem ps_dput (hu : X.A.units + 1 < cLine) (ho : PE X o td) (hi : PE X i ty) (hv : PE X value tv) (hs : swapsWith value (some (.Subscript o i pos')) pos.line X.env = pure false) :
    PS X (.Assign [.Subscript o i pos'] value pos) (sDPut td ty tv) := by
  intro pins s σ H D I h
  refine wpAny_Assign_Subscript (thn (hv pins s σ H _ I h) fun r s1 ⟨v, H1, I1, rv, q1⟩ => thn (ho pins s1 σ H1 _ I1 q1) fun u s2 ⟨x, H2, I2, rx, q2⟩ => thn (hi pins s2 σ H2 _ I2 q2) fun iv s3 ⟨y, H3, I3, ry, a, H4, ex, g, q3⟩ => ?_) hs
  subst ex
  obtain rfl : u = Value.ref a := rx
  exact d_setItem hu I3 g ry rv fun s4 I4 => ⟨σ, H4, I4, q3⟩
end
theorem dk_empty {P : Program} {w : World} {H : Hp} (h : Heap) (hb : sysModules < h.objs.size) : ObjOk P w H (h.push { cls := .type "dict", data := .dict #[] }) h.objs.size (.dK []) :=
  ⟨Nat.zero_le _, beq_eq_false_iff_ne.mpr (Ne.symm (Nat.ne_of_lt hb)), [], .nil, Heap.DictOf.new h⟩
def tDNewK : TE := fun _ H Q => ∀ p, H p = none → Q (.ref p) (upd H p (.dK []))
section
variable {X : Cx} {pos : Pos}
theorem pe_dnewK : PE X (.Dict [] [] pos) tDNewK := fun pins s σ H Q I h =>
  wpAny_Dict_empty ⟨.ref s.heap.objs.size, _, I.laid (a := s.heap.objs.size) (o := .dK []) (t' := s.toks) (fun _ _ q => Heap.get?_push_of_some _ q) (Nat.le_refl _) (dk_empty s.heap I.big), rfl, h _ (I.hok.fresh (Nat.le_refl _))⟩
end
def tPairs : List (TE × TE) → St → Hp → (List (V × V) → Hp → Prop) → Prop
  | [], _, H, Q => Q [] H
  | (tk, tv) :: r, σ, H, Q => tk σ H fun x H1 => tv σ H1 fun y H2 => tPairs r σ H2 fun ps H3 => Q ((x, y) :: ps) H3
abbrev VV : List (V × V) → List (Value × Value) → Prop := Paired fun p q => RelV p.1 q.1 ∧ RelV p.2 q.2
def PPs (X : Cx) (pos : Pos) (keys : List (Option Expr)) (values : List Expr) (trs : List (TE × TE)) : Prop :=
  ∀ (pins : List (Addr × Obj)) (s : Shared) (σ : St) (H : Hp) (Q : List (V × V) → Hp → Prop), Inv X pins σ H s → tPairs trs σ H Q →
    wpAny (model X.prog X.w) X.A (evalPairs (pairTrees keys values X.env pos)) (fun vs s' => ∃ ps H', Inv X pins σ H' s' ∧ VV ps vs ∧ Q ps H') X.xe s
theorem pps_nil {X : Cx} {pos : Pos} : PPs X pos [] [] [] := fun pins s σ H Q I h => pairTrees_nil_walk ⟨[], H, I, .nil, h⟩
theorem pps_cons {X : Cx} {pos : Pos} {k v : Expr} {ks : List (Option Expr)} {vs : List Expr} {tk tv : TE} {trs : List (TE × TE)} (hk : PE X k tk) (hv : PE X v tv) (hr : PPs X pos ks vs trs) :
    PPs X pos (some k :: ks) (v :: vs) ((tk, tv) :: trs) := fun pins s σ H Q I h =>
  pairTrees_cons_walk (thn (hk pins s σ H _ I h) fun u s1 ⟨x, H1, I1, rx, q1⟩ => thn (hv pins s1 σ H1 _ I1 q1) fun w2 s2 ⟨y, H2, I2, ry, q2⟩ =>
    thn (hr pins s2 σ H2 _ I2 q2) fun ws s3 ⟨ps, H3, I3, rel, q3⟩ => ⟨(x, y) :: ps, H3, I3, .cons ⟨rx, ry⟩ rel, q3⟩)
def mergeK (kvs more : List (Key × V)) : List (Key × V) := more.foldl (fun acc kv => putK acc kv.1 kv.2) kvs
theorem KV.merge : ∀ {more : List (Key × V)} {rs : List (Key × Value)} {kvs : List (Key × V)} {vs : List (Key × Value)}, KV more rs → KV kvs vs → KV (mergeK kvs more) (merged vs rs) := by
  intro more rs kvs vs r
  unfold KV at r
  induction r generalizing kvs vs with
  | nil => intro q; exact q
  | @cons p q ps qs h t ih =>
    intro r0
    have e : KV (putK kvs p.1 p.2) (stored vs q.1 q.2) := by
      have := r0.put p.1 h.2
      rw [← h.1]; exact this
    exact ih e
theorem length_mergeK : ∀ (more kvs : List (Key × V)), (mergeK kvs more).length ≤ kvs.length + more.length
  | [], kvs => by show kvs.length ≤ kvs.length + 0; omega
  | p :: r, kvs => by
    have h1 := length_mergeK r (putK kvs p.1 p.2)
    have h2 := length_putK kvs p.1 p.2
    show (mergeK (putK kvs p.1 p.2) r).length ≤ _
    rw [List.length_cons]; omega
theorem carries_of {P : Program} {w : World} : ∀ {kvs : List (Key × V)} {ws : List (Value × Value)}, VV (kvs.map fun kv => (kV kv.1, kv.2)) ws → ∃ rs, Carries (mixKind P w) ws rs ∧ KV kvs rs
  | [], _, r => by rw [List.map_nil] at r; cases r; exact ⟨[], True.intro, .nil⟩
  | p :: kvs, _, r => by
    rw [List.map_cons] at r
    cases r with
    | @cons a b as bs h t =>
      obtain ⟨rs, c, q⟩ := carries_of (P := P) (w := w) t
      obtain ⟨b1, b2⟩ := b
      exact ⟨(p.1, b2) :: rs, ⟨kV_is h.1, rfl, c⟩, .cons ⟨rfl, h.2⟩ q⟩
def tDisp (trs : List (TE × TE)) : TE := fun σ H Q => ∀ p, H p = none → tPairs trs σ (upd H p (.dK [])) fun ps H2 => H2 p = some (.dK []) ∧ ∃ kvs : List (Key × V), ps = kvs.map (fun kv => (kV kv.1, kv.2)) ∧ kvs.length ≤ 15 ∧ Q (.ref p) (upd H2 p (.dK (mergeK [] kvs)))
theorem pe_disp {X : Cx} {pos : Pos} {keys : List (Option Expr)} {values : List Expr} {trs : List (TE × TE)} (h : PPs X pos keys values trs) (hall : keys.all (·.isSome) = true) (hl : keys.length = values.length) (h0 : keys ≠ [])
    (h15 : keys.length ≤ 15) : PE X (.Dict keys values pos) (tDisp trs) := by
  intro pins s σ H Q I q
  have hn := I.hok.fresh (Nat.le_refl s.heap.objs.size)
  have I1 := I.laid (a := s.heap.objs.size) (o := .dK []) (h' := s.heap.push { cls := .type "dict", data := .dict #[] }) (t' := s.toks) (fun _ _ q => Heap.get?_push_of_some _ q) (Nat.le_refl _) (dk_empty s.heap I.big)
  refine wpAny_Dict_walk (knd := mixKind X.prog X.w) hall hl h0 h15 (thn (h pins _ σ _ _ I1 (q _ hn)) fun ws s2 ⟨ps, H2, I2, rel, e, kvs, ep, lk, q2⟩ => ?_)
  subst ep
  obtain ⟨rs, c, rk⟩ := carries_of (P := X.prog) (w := X.w) rel
  obtain ⟨z, hd, vs0, r0, dd⟩ := dk_of I2.hok e
  cases r0
  refine ⟨rs, c, dd, fun h' dd' hs => ⟨.ref s.heap.objs.size, _, ?_, rfl, q2⟩⟩
  have hz : (mergeK [] kvs).length ≤ sizeLine := by
    have h1 := length_mergeK kvs []
    rw [List.length_nil] at h1
    rw [sizeLine_eq]; omega
  have he : ∃ q, h'.get? s.heap.objs.size = some q := let ⟨q, _, _, hq, _⟩ := dd'; ⟨q, hq⟩
  exact d_write I2 (by rw [e]; exact True.intro) hs he (dk_new hz hd (rk.merge .nil) dd')
structure M1 (X : Cx) (o : Expr) (m : Str) (apos : Pos) (e : Expr) (cpos : Pos) : Prop where
  base : attributeBase o m X.env (eval o X.env) = eval o X.env
  few : ((backTo cpos (starEach [e] X.env)).all (fun x => !x.1) && (backToKw cpos (keywordEach [] X.env)).all (fun x => x.1.isSome)
    && decide (([e] : List Expr).length + ([] : List Keyword).length + (if ([] : List Keyword).isEmpty then 0 else 1) < 30)) = true
  line : (apos.endLine == cpos.line) = true
  trees : backTo cpos (starEach [e] X.env) = [(false, eval e X.env)]
def IsD (H : Hp) (a : Addr) : Prop := (∃ kvs, Rd H a (.dK kvs)) ∨ ∃ kvs, Rd H a (.dT kvs)
theorem isD_at {X : Cx} {pins : List (Addr × Obj)} {σ : St} {H : Hp} {s : Shared} {a : Addr} (I : Inv X pins σ H s) (d : IsD H a) :
    s.TypeIs (.ref a) "dict" ∧ (∀ b, Value.ref a = .ref b → ∃ ob, s.heap.get? b = some ob ∧ ob.dict = none) ∧ (a == sysModules) = false := by
  rcases d with ⟨kvs, e⟩ | ⟨kvs, e⟩
  · obtain ⟨_, hd, vs, _, dd⟩ := dk_rd I.hok e
    refine ⟨dd.typeIs, fun b q => ?_, hd⟩
    cases q
    obtain ⟨ob, _, _, h1, h2, _⟩ := dd
    exact ⟨ob, h1, h2.2.1⟩
  · obtain ⟨_, hd, xs, _, dd⟩ := dt_rd I.hok e
    refine ⟨dd.typeIs, fun b q => ?_, hd⟩
    cases q
    obtain ⟨ob, _, _, h1, h2, _⟩ := dd
    exact ⟨ob, h1, h2.2.1⟩
section
variable {X : Cx} {pins : List (Addr × Obj)} {σ : St} {H : Hp} {s : Shared} {a : Addr} {y d : V} {u r : Value} {o : Option V} {A : Around} {E : Value → Shared → Prop}
theorem d_get1 {Q : Value → Shared → Prop} (hu : A.units + 1 < cLine) (I : Inv X pins σ H s) (g : DGet H a y o) (ry : RelV y u) (h : ∀ w' s', Inv X pins σ H s' → RelV (o.getD .non) w' → Q w' s') :
    wpAny (model X.prog X.w) A (call (.builtin "dict.get") [.ref a, u]) Q E s := by
  rcases g with ⟨kvs, k, e, ey, l⟩ | ⟨kvs, k, b, e, ey, eb, l⟩
  · subst ey
    obtain ⟨z, hd, vs, rel, dd⟩ := dk_rd I.hok e
    refine call_meetsIn PySem.F.slot_dict_get dd.typeIs PySem.F.entry_dict_get (PySem.F.args_dict_get_2 _ _) (meets_dict_get (mixKind X.prog X.w) a (kV_is ry) hd) ⟨_, dd.mapOf, h _ _ (I.tok _) ?_⟩
    rw [l]
    exact (rel.val k).getD rfl
  · subst ey
    cases (show u = Value.ref b from ry)
    obtain ⟨z, hd, xs, rel, dd⟩ := dt_rd I.hok e
    refine call_meetsIn PySem.F.slot_dict_get dd.typeIs PySem.F.entry_dict_get (PySem.F.args_dict_get_2 _ _) (meetsH_dict_get (tupleKind (mixKind X.prog X.w)) a b hd) ⟨tupleKind_room_in1 hu, k, xs, key_of I.hok eb, dd, h _ _ (I.tok _) ?_⟩
    rw [l]
    exact (rel.val k).getD rfl
end
def tDGet1 (td ty : TE) : TE := fun σ H Q => td σ H fun x H1 => ∃ a, x = .ref a ∧ IsD H1 a ∧ ty σ H1 fun y H2 => ∃ o, DGet H2 a y o ∧ Q (o.getD .non) H2
def tDPop1 (td ty : TE) : TE := fun σ H Q => td σ H fun x H1 => ∃ a, x = .ref a ∧ IsD H1 a ∧ ty σ H1 fun y H2 => ∃ kvs k v, H2 a = some (.dK kvs) ∧ y = kV k ∧ valV kvs k = some v ∧ Q v (upd H2 a (.dK (dropK kvs k)))
section
variable {X : Cx} {o e f : Expr} {apos cpos : Pos} {td ty tx : TE}
theorem pe_dget1 (hu : X.A.units + 1 < cLine) (ho : PE X o td) (he : PE X e ty) (m : M1 X o "get" apos e cpos) : PE X (.Call (.Attribute o "get" apos) [e] [] cpos) (tDGet1 td ty) := by
  intro pins s σ H Q I h
  refine wpAny_Call_method m.base m.few m.line PySem.F.plainAttrs_dict PySem.F.slot_dict_get PySem.F.type_dict_get (thn (ho pins s σ H _ I h) fun u s1 ⟨x, H1, I1, rx, a, ex, d, q1⟩ => ?_)
  subst ex
  obtain rfl : u = Value.ref a := rx
  obtain ⟨t1, t2, _⟩ := isD_at I1 d
  refine ⟨t1, t2, ?_⟩
  rw [m.trees]
  refine Calls.callWith_builtin rfl (Calls.evalArgs_plain (Calls.spliced_cons (thn (he pins s1 σ H1 _ I1 q1) fun iv s2 ⟨y, H2, I2, ry, ov, g, q2⟩ => Calls.spliced_nil ?_)))
  exact d_get1 hu I2 g ry fun w' s3 I3 rw' => ⟨_, H2, I3, rw', q2⟩
theorem pe_dpop1 (ho : PE X o td) (he : PE X e ty) (m : M1 X o "pop" apos e cpos) : PE X (.Call (.Attribute o "pop" apos) [e] [] cpos) (tDPop1 td ty) := by
  intro pins s σ H Q I h
  refine wpAny_Call_method m.base m.few m.line PySem.F.plainAttrs_dict PySem.F.slot_dict_pop PySem.F.type_dict_pop (thn (ho pins s σ H _ I h) fun u s1 ⟨x, H1, I1, rx, a, ex, d, q1⟩ => ?_)
  subst ex
  obtain rfl : u = Value.ref a := rx
  obtain ⟨t1, t2, _⟩ := isD_at I1 d
  refine ⟨t1, t2, ?_⟩
  rw [m.trees]
  refine Calls.callWith_builtin rfl (Calls.evalArgs_plain (Calls.spliced_cons (thn (he pins s1 σ H1 _ I1 q1) fun iv s2 ⟨y, H2, I2, ry, kvs, k, v, ea, ey, l, q2⟩ => Calls.spliced_nil ?_)))
  subst ey
  exact d_pop I2 ea ry l (.inl rfl) fun w' s3 I3 rw' => ⟨v, _, I3, rw', q2⟩
end
section
variable {X : Cx} {pins : List (Addr × Obj)} {σ : St} {H : Hp} {s : Shared} {a : Addr} {kvs : List (Key × V)} {A : Around} {E : Value → Shared → Prop}
end
section
variable {X : Cx} {pins : List (Addr × Obj)} {σ : St} {H : Hp} {s : Shared} {a : Addr} {y : V} {u : Value} {A : Around} {E : Value → Shared → Prop}
end
end L2
namespace L2
open PySem PySem.Spec PyProof.Rows
section
variable {X : Cx}
end
section
variable {κ : Type} [DecidableEq κ]
theorem dropK_pos {p : κ × V} {r : List (κ × V)} {k : κ} (e : p.1 = k) : dropK (p :: r) k = dropK r k := by
  unfold dropK
  rw [List.filter_cons, if_neg (by simp [e])]
theorem dropK_neg {p : κ × V} {r : List (κ × V)} {k : κ} (e : ¬ p.1 = k) : dropK (p :: r) k = p :: dropK r k := by
  unfold dropK
  rw [List.filter_cons, if_pos (by simp [e])]
end
end L2
set_option maxHeartbeats 8000000
namespace L2
open PySem
def closC (env : Env) : List (Str × NameKind) → List (Str × Addr) → List (Str × Addr)
  | [], cs => cs
  | (n, k) :: r, cs => if (k == NameKind.free) = true then closC env r ((n, (env.cells.lookup n).getD 0) :: cs) else closC env r cs
theorem closC_forIn {env : Env} : ∀ (l : List (Str × NameKind)) (cs : List (Str × Addr)), (∀ x ∈ l, x.2 = NameKind.free → ∃ c, env.cells.lookup x.1 = some c) →
    forIn (m := Sem) l cs (fun x cs => match x with
      | (name, kind) => if (kind == NameKind.free) = true then do let a ← cellOf env name; pure (ForInStep.yield ((name, a) :: cs)) else pure (ForInStep.yield cs)) = pure (closC env l cs)
  | [], _, _ => rfl
  | (n, k) :: r, cs, h => by
    have hr : ∀ x ∈ r, x.2 = NameKind.free → ∃ c, env.cells.lookup x.1 = some c := fun x hx => h x (List.mem_cons_of_mem _ hx)
    rw [List.forIn_cons]
    dsimp only
    by_cases e : (k == NameKind.free) = true
    · obtain ⟨c, hc⟩ := h (n, k) List.mem_cons_self (by simpa using e)
      have hc' : env.cells.lookup n = some c := hc
      have ec : cellOf env n = pure c := by unfold cellOf; rw [hc']
      rw [if_pos e, ec, pure_bind, pure_bind]
      refine (closC_forIn r ((n, c) :: cs) hr).trans ?_
      conv => rhs; unfold closC
      rw [if_pos e, hc']
      rfl
    · rw [if_neg e, pure_bind]
      refine (closC_forIn r cs hr).trans ?_
      conv => rhs; unfold closC
      rw [if_neg e]
theorem closC_eq {scope : Scope} {env : Env} (h : ∀ x ∈ scope.names, x.2 = NameKind.free → ∃ c, env.cells.lookup x.1 = some c) : closureFor scope env = pure (closC env scope.names []) := by
  have e := closC_forIn scope.names [] h
  simp only [closureFor]
  rw [e]
  rfl
theorem closC_lookup {env : Env} : ∀ (l : List (Str × NameKind)) (cs : List (Str × Addr)), (∀ x ∈ l, x.2 = NameKind.free → ∃ c, env.cells.lookup x.1 = some c) → (∀ x c, cs.lookup x = some c → env.cells.lookup x = some c) →
    ∀ x c, (closC env l cs).lookup x = some c → env.cells.lookup x = some c
  | [], _, _, hc, x, c, e => hc x c e
  | (n, k) :: r, cs, h, hc, x, c, e => by
    have hr : ∀ x ∈ r, x.2 = NameKind.free → ∃ c, env.cells.lookup x.1 = some c := fun x hx => h x (List.mem_cons_of_mem _ hx)
    unfold closC at e
    by_cases q : (k == NameKind.free) = true
    · rw [if_pos q] at e
      obtain ⟨a, ha⟩ := h (n, k) List.mem_cons_self (by simpa using q)
      have ha' : env.cells.lookup n = some a := ha
      refine closC_lookup r _ hr (fun y b hy => ?_) x c e
      rw [ha'] at hy
      rw [List.lookup_cons] at hy
      cases z : y == n with
      | true =>
        rw [z] at hy
        have z' : y = n := by simpa using z
        subst z'
        cases hy
        exact ha'
      | false =>
        rw [z] at hy
        exact hc y b hy
    · rw [if_neg q] at e
      exact closC_lookup r _ hr hc x c e
theorem closC_mono {env : Env} : ∀ (l : List (Str × NameKind)) (cs : List (Str × Addr)) (x : Str), (cs.lookup x).isSome = true → ((closC env l cs).lookup x).isSome = true
  | [], _, _, h => h
  | (n, k) :: r, cs, x, h => by
    unfold closC
    by_cases q : (k == NameKind.free) = true
    · rw [if_pos q]
      refine closC_mono r _ x ?_
      rw [List.lookup_cons]
      cases x == n with
      | true => rfl
      | false => exact h
    · rw [if_neg q]
      exact closC_mono r cs x h
theorem closC_has {env : Env} : ∀ (l : List (Str × NameKind)) (cs : List (Str × Addr)) (x : Str), (x, NameKind.free) ∈ l → ((closC env l cs).lookup x).isSome = true
  | [], _, _, h => by cases h
  | (n, k) :: r, cs, x, h => by
    unfold closC
    rcases List.mem_cons.mp h with e | e
    · obtain ⟨rfl, rfl⟩ := Prod.mk.inj e
      rw [if_pos (by rfl)]
      refine closC_mono r _ _ ?_
      rw [List.lookup_cons]
      simp
    · split
      · exact closC_has r _ x e
      · exact closC_has r _ x e
section
variable {prog : Program} {w : World} {A : Around} {E : Value → Shared → Prop} {R : Result → Shared → Prop} {s : Shared}
theorem compLoop_any {elt target iter : Expr} {ifs : List Expr} {scope : Scope} {pos : Pos} {it acc : Value} {env : Env} (I : Nat → Shared → Prop)
    (turn : ∀ n s, I n s → wpAny (model prog w) A (pyNext it) (fun r s₁ => match r with
      | none => R (.ok .next) s₁
      | some v => wpAny (model prog w) A (letOwnedTupleGo target it v) (fun _ s₁' => wpAny (model prog w) A (assign target env v) (fun _ s₂ =>
          wpAny (model prog w) A (forIn ifs true fun c r => if r = true then do let ok ← isTrue c env (eval c env); pure (ForInStep.yield ok) else pure (ForInStep.yield r)) (fun ok s₃ =>
            if ok = true then wpAny (model prog w) A (eval elt env) (fun x s₄ =>
              wpAny (model prog w) A (call (.builtin "list.append") [acc, x]) (fun _ s₅ => ∃ m, m < n ∧ I m s₅) (fun _ _ => False) s₄) (fun _ _ => False) s₃
            else ∃ m, m < n ∧ I m s₃) (fun _ _ => False) s₂) (fun _ _ => False) s₁') (fun _ _ => False) s₁) (fun _ _ => False) s)
    (n : Nat) (h : I n s) :
    codeAny (model prog w) A (.compLoop (.ListComp elt [⟨target, iter, ifs, 0⟩] scope pos) 0 it acc env) R s := by
  refine codeAny_loop rfl I (fun n s hI => ?_) n h
  show wpAny _ A ((compTurn (.ListComp elt [⟨target, iter, ifs, 0⟩] scope pos) 0 it acc env).onRaise (fun x => do noteFrame x env; theTreesLotGoes x)) _ _ s
  refine wpAny_noted ?_
  rw [compTurn_list]
  refine wpAny_bind (wpAny_standAt (wpAny_bind (wpAny_mono (turn n s hI) (fun r s₁ h₁ => ?_) fun _ _ h' => h'.elim)))
  cases r with
  | none => exact wpAny_pure h₁
  | some v =>
    refine wpAny_bind (wpAny_mono h₁ (fun _ s₁' h₁' => ?_) fun _ _ h' => h'.elim)
    refine wpAny_bind (wpAny_mono h₁' (fun _ s₂ h₂ => wpAny_bind (wpAny_mono h₂ (fun ok s₃ h₃ => ?_) fun _ _ h' => h'.elim)) fun _ _ h' => h'.elim)
    cases ok with
    | false => exact wpAny_pure ⟨rfl, h₃⟩
    | true =>
      exact wpAny_bind (wpAny_bind (wpAny_mono h₃ (fun x s₄ h₄ => wpAny_bind (wpAny_mono h₄ (fun _ s₅ h₅ => wpAny_pure (wpAny_pure ⟨rfl, h₅⟩)) fun _ _ h' => h'.elim)) fun _ _ h' => h'.elim))
end
end L2
namespace L2
open PySem PySem.Spec PyProof.Rows
def cxC (X : Cx) (pins : List (Addr × Obj)) (N : List Str) (scope : Scope) (cl : List (Str × Addr)) (C : Addr) (s : Shared) (H : Hp) (fp : List Addr) : Cx where
  prog := X.prog
  w := X.w
  K := X.K
  mg := X.mg
  base := X.base
  A := X.A
  N := N
  s₀ := s
  H₀ := H
  env := compEnvC scope cl C X.env
  outer := X.stack
  stack := X.stack
  ex := fp
  fn := fun _ => false
  calm := X.calm
  pn := X.pn ++ pins
  xe := fun _ _ => False
def tieOk (XN N : List Str) (sc : List (Str × NameKind)) : Nat → List Nat → Bool
  | _, [] => true
  | j, i :: r => (match XN[i]?, N[j]? with
    | some x, some y => decide (x = y) && decide (sc.lookup x = some .free)
    | _, _ => false) && tieOk XN N sc (j + 1) r
theorem tie_get {XN N : List Str} {sc : List (Str × NameKind)} : ∀ {j0 : Nat} {fr : List Nat}, tieOk XN N sc j0 fr = true → ∀ {j i : Nat}, fr[j]? = some i → ∀ {x : Str}, N[j0 + j]? = some x → XN[i]? = some x ∧ sc.lookup x = some .free
  | _, [], _, j, i, e, _, _ => by simp at e
  | j0, i0 :: r, h, 0, i, e, x, hx => by
    have e' : i0 = i := by simpa using e
    subst e'
    unfold tieOk at h
    have hx' : N[j0]? = some x := by simpa using hx
    rw [hx'] at h
    cases q : XN[i0]? with
    | none => rw [q] at h; simp at h
    | some y =>
      rw [q] at h
      simp only [Bool.and_eq_true, decide_eq_true_eq] at h
      obtain ⟨⟨h1, h2⟩, _⟩ := h
      subst h1
      exact ⟨rfl, h2⟩
  | j0, i0 :: r, h, j + 1, i, e, x, hx => by
    unfold tieOk at h
    rw [Bool.and_eq_true] at h
    exact tie_get (j0 := j0 + 1) h.2 (j := j) (by simpa using e) (by rw [show j0 + 1 + j = j0 + (j + 1) by omega]; exact hx)
structure CompScope (X : Cx) (N : List Str) (nt : Nat) (fr : List Nat) (scope : Scope) : Prop where
  kind : scope.kind = .function
  cell : ∀ y ∈ scope.names, y.2 ≠ .cell
  names : ∀ y ∈ scope.names, y.2 = .local → scope.names.lookup y.1 = some .local
  free : ∀ y ∈ scope.names, y.2 = .free → X.env.kindOf y.1 = some .cell
  len : N.length = nt + fr.length
  tie : tieOk X.N N scope.names nt fr = true
def startC (nt : Nat) (fr : List Nat) (σ : St) : St := List.replicate nt none ++ fr.map fun i => (σ[i]?).join
theorem relabel_mem {scope : Scope} {env : Env} {x : Str} {k : NameKind} (hc : ∀ y ∈ scope.names, y.2 ≠ .cell) (h : (relabel scope env).names.lookup x = some k) (hk : k = .cell ∨ k = .free) : (x, NameKind.free) ∈ scope.names := by
  have hm := PySem.mem_of_lookup h
  unfold relabel at hm
  obtain ⟨⟨n, q⟩, hy, e⟩ := List.mem_map.mp hm
  dsimp only at e
  by_cases z : (q == NameKind.free && env.scope.kind == .function && env.kindOf n == some .cell) = true
  · rw [if_pos z] at e
    have hq : q = NameKind.free := by
      simp only [Bool.and_eq_true] at z
      simpa using z.1.1
    cases e
    subst hq
    exact hy
  · rw [if_neg z] at e
    cases e
    rcases hk with hk | hk
    · exact absurd hk (hc _ hy)
    · subst hk
      exact hy
section
variable {X : Cx} {pins : List (Addr × Obj)} {σ : St} {H : Hp} {s : Shared}
theorem lookup_relabel_free {scope : Scope} {env : Env} (hk : env.scope.kind = .function) : ∀ {names : List (Str × NameKind)} {x : Str}, names.lookup x = some .free → env.kindOf x = some .cell →
    (names.map fun (n, k) => if (k == NameKind.free && env.scope.kind == .function && env.kindOf n == some .cell) then (n, NameKind.cell) else (n, k)).lookup x = some .cell
  | [], _, h, _ => by simp at h
  | (n, k) :: r, x, h, hx => by
    have ih := @lookup_relabel_free scope env hk r x
    show List.lookup x ((if (k == NameKind.free && env.scope.kind == .function && env.kindOf n == some .cell) = true then (n, NameKind.cell) else (n, k)) :: _) = _
    cases hq : x == n with
    | true =>
      have e : x = n := by simpa using hq
      subst e
      simp only [List.lookup_cons, hq] at h
      cases h
      rw [if_pos (by rw [hk, hx]; rfl)]
      simp [List.lookup_cons]
    | false =>
      simp only [List.lookup_cons, hq] at h
      by_cases hc : (k == NameKind.free && env.scope.kind == .function && env.kindOf n == some .cell) = true
      · rw [if_pos hc]; simp only [List.lookup_cons, hq]; exact ih h hx
      · rw [if_neg hc]; simp only [List.lookup_cons, hq]; exact ih h hx
theorem Inv.block {N : List Str} {nt : Nat} {fr : List Nat} {scope : Scope} {fp : List Addr} {h1 : Heap} {C : Addr} {tk : Nat} {m : Str → Option Value} (I : Inv X pins σ H s) (S : CompScope X N nt fr scope) (hC : C = s.heap.objs.size) (hn : h1.Ns C m)
    (hk : ∀ b o, s.heap.get? b = some o → h1.get? b = some o) (hf : ∀ b ∈ fp, FpOk X pins H b) (ho : ∀ b ∈ fp, b < s.heap.objs.size) :
    Inv (cxC X pins N scope (closC X.env scope.names []) C s H fp) [] (startC nt fr σ) H { s with heap := h1, toks := tk } := by
  have hfree : ∀ x ∈ scope.names, x.2 = NameKind.free → ∃ c, X.env.cells.lookup x.1 = some c := fun x hx e => I.ok.has x.1 (.inl (S.free x hx e))
  have cls : ∀ x c, (closC X.env scope.names []).lookup x = some c → X.env.cells.lookup x = some c := closC_lookup scope.names [] hfree (fun x c e => by simp at e)
  have stk : ∀ b ∈ fp, b ∉ frs X.stack := fun b hb z => by
    obtain ⟨f0, f1, f2, _⟩ := hf b hb
    rcases List.mem_cons.mp (I.stkSub b z) with e | e
    · exact f1 e
    · exact f2 e
  refine ⟨⟨I.ok.mod, S.kind, I.ok.glob, I.ok.blt, by rw [hC]; exact Nat.le_refl _, fun x y c e1 e2 => I.ok.inj x y c (cls x c e1) (cls y c e2), fun x e => ?_, fun _ _ e => (by cases e), I.ok.hd, I.ok.frames, .inl rfl, fun b hb => ⟨?_, fun x c e => (hf b hb).2.2.2.2.1 x c (cls x c e)⟩,
      fun b o e => I.bs b o e, Nat.le_trans I.ok.bsz I.sz, fun b o e hb => ?_, stk, I.stack, I.stkFree⟩,
    rfl, I.bare, Un.kept hk, ⟨m, hn, fun j x v e1 e2 e3 => ?_⟩, fun x c e => ?_, ?_, fun x c e => I.freeC x c (cls x c e), fun p hp => ?_, I.hok.kept hk, ?_⟩
  · have hm : (x, NameKind.free) ∈ scope.names := by
      rcases e with e | e
      · exact relabel_mem S.cell e (.inl rfl)
      · exact relabel_mem S.cell e (.inr rfl)
    exact Option.isSome_iff_exists.mp (closC_has scope.names [] x hm)
  · intro z
    have := ho b hb
    rw [z] at this
    have e : (cxC X pins N scope (closC X.env scope.names []) C s H fp).env.locals = s.heap.objs.size := hC
    rw [e] at this
    exact Nat.lt_irrefl _ this
  · have hb' : b ∈ fp := hb
    rcases (hf b hb').2.2.2.1 with z | z
    · exact I.ok.noex b o e z
    · exact absurd (Nat.lt_of_lt_of_le (Heap.lt_size (I.ok.bs b o e).1) z) (Nat.lt_irrefl _)
  · have e1 : N[j]? = some x := e1
    by_cases hj : j < nt
    · unfold startC at e2
      rw [List.getElem?_append_left (by simpa using hj), List.getElem?_replicate, if_pos hj] at e2
      cases e2
    · obtain ⟨d, rfl⟩ : ∃ d, j = nt + d := ⟨j - nt, by omega⟩
      unfold startC at e2
      rw [List.getElem?_append_right (by simp), List.length_replicate, Nat.add_sub_cancel_left, List.getElem?_map] at e2
      cases q : fr[d]? with
      | none => rw [q] at e2; cases e2
      | some i =>
        rw [q] at e2
        have e2' : (σ[i]?).join = some v := Option.some.inj e2
        have e2'' : σ[i]? = some (some v) := by
          cases z : σ[i]? with
          | none => rw [z] at e2'; cases e2'
          | some o => rw [z] at e2'; rw [show o = some v from e2']
        obtain ⟨hx, hl⟩ := tie_get S.tie q e1
        have hkx : X.env.kindOf x = some .cell := S.free (x, .free) (PySem.mem_of_lookup hl) rfl
        obtain ⟨m', hn', hl'⟩ := I.loc
        obtain ⟨u, r, lk⟩ := hl' i x v hx e2'' (.inr (.inl hkx))
        refine ⟨u, r, .inr ⟨.inl ?_, ?_⟩⟩
        · exact lookup_relabel_free (scope := scope) I.ok.kind hl hkx
        · rcases lk with ⟨hk', _⟩ | ⟨_, c, hc, hcell⟩
          · rw [hkx] at hk'; cases hk'
          · obtain ⟨c', hc'⟩ := Option.isSome_iff_exists.mp (closC_has (env := X.env) scope.names [] x (PySem.mem_of_lookup hl))
            have := cls x c' hc'
            rw [hc] at this
            cases this
            obtain ⟨o, ho', hd⟩ := hcell
            exact ⟨c, hc', o, hk c o ho', hd⟩
  · obtain ⟨v, o, e', d⟩ := I.cell x c (cls x c e)
    exact ⟨v, o, hk c o e', d⟩
  · show H C = none
    rw [hC]
    exact I.hok.fresh (Nat.le_refl _)
  · have hp' : p ∈ X.pn ++ pins := by
      have z : p ∈ (X.pn ++ pins) ++ [] := hp
      rwa [List.append_nil] at z
    obtain ⟨e, n, ne, nf, d⟩ := I.pin p hp'
    refine ⟨hk _ _ e, n, ?_, fun z => ?_, d⟩
    · show p.1 ≠ C
      rw [hC]
      exact Nat.ne_of_lt (Heap.lt_size e)
    · rcases List.mem_cons.mp (I.stkSub p.1 z) with q | q
      · exact ne q
      · exact nf q
  · show (startC nt fr σ).length = N.length
    unfold startC
    rw [List.length_append, List.length_replicate, List.length_map, S.len]
theorem Inv.unblock {N : List Str} {scope : Scope} {cl : List (Str × Addr)} {fp : List Addr} {C : Addr} {s3 s' : Shared} {pins' : List (Addr × Obj)} {σ' : St} {H' : Hp} (I : Inv X pins σ H s3) (hf : ∀ b ∈ fp, FpOk X pins H b)
    (J : Inv (cxC X pins N scope cl C s3 H fp) pins' σ' H' s') : Inv X pins σ H' s' :=
  I.call' (ch := fp) J.os J.base J.hok J.bare fun b hb => ⟨(hf b hb).2.2.2.1, (hf b hb).2.1, (hf b hb).2.2.2.2.1, (hf b hb).2.2.2.2.2⟩
def PIfs (X : Cx) (ifs : List Expr) (t : TT) : Prop :=
  ∀ (pins : List (Addr × Obj)) (s : Shared) (σ : St) (H : Hp) (Q : Bool → Hp → Prop), Inv X pins σ H s → t σ H Q →
    wpAny (model X.prog X.w) X.A (forIn ifs true fun c r => if r = true then do let ok ← isTrue c X.env (eval c X.env); pure (ForInStep.yield ok) else pure (ForInStep.yield r)) (TP X pins σ Q) X.xe s
def tYes : TT := fun _ H Q => Q true H
theorem pif_nil {X : Cx} : PIfs X [] tYes := fun pins s σ H Q I h => wpAny_tests_nil ⟨H, I, h⟩
theorem pif_one {X : Cx} {c : Expr} {t : TT} (h : PT X c t) : PIfs X [c] t := fun pins s σ H Q I q => wpAny_tests_one (h pins s σ H Q I q)
def tComp (nt : Nat) (fr : List Nat) (wi : TI) (g : TG) (tt : TT) (te : TE) : TE := fun σ H Q => wi σ H fun J H1 => ∀ D, H1 D = none → ∃ W : Nat → Nat → St → Hp → Prop, (∃ m, W 0 m (startC nt fr σ) (upd H1 D (.lst []))) ∧
  ∀ i m σ' H', W i m σ' H' → (J.stop i H' ∧ Q (.ref D) H') ∨ (J.go i H' ∧ ∃ N : St → Hp → Prop, (∀ σ2 H2, N σ2 H2 → ∃ m', m' < m ∧ W (i + 1) m' σ2 H2) ∧
    ∀ x H2, J.yld i H' x H2 → g x σ' H2 fun σ2 H3 => tt σ2 H3 fun b H4 => if b = true then te σ2 H4 fun v H5 => ∃ ys, H5 D = some (.lst ys) ∧ ys.length < sizeLine ∧ N σ2 (upd H5 D (.lst (ys ++ [v]))) else N σ2 H4)
theorem comp_core2 {elt tg iter : Expr} {ifs : List Expr} {scope : Scope} {pos : Pos} {N : List Str} {nt : Nat} {fr : List Nat} {g : TG} {tt : TT} {te : TE} {use : Option (Value → Sem Unit)} {Qv : Value → Shared → Prop} {Q : VK}
    {J : It} {fp : List Addr} {it D : Addr} {tn : Nat → Heap → Prop} {W : Nat → Nat → St → Hp → Prop} {m0 : Nat} {h₁ : Heap} {mC : Str → Option Value} {tk : Nat}
    (I3 : Inv X pins σ H s) (hcalm : X.calm = true) (S : CompScope X N nt fr scope)
    (hb : ∀ pins' cl C s3 H3 fp, let Y := cxC X pins' N scope cl C s3 H3 fp; PG Y tg g ∧ PIfs Y ifs tt ∧ PE Y elt te)
    (T : Turn X.prog X.w X.K tg J fp it tn) (st2 : tn 0 s.heap) (f3 : ∀ b ∈ fp, FpOk X pins H b) (w0 : W 0 m0 (startC nt fr σ) H)
    (turn : ∀ i m σ' H', W i m σ' H' → (J.stop i H' ∧ Q (.ref D) H') ∨ (J.go i H' ∧ ∃ N : St → Hp → Prop, (∀ σ2 H2, N σ2 H2 → ∃ m', m' < m ∧ W (i + 1) m' σ2 H2) ∧
      ∀ x H2, J.yld i H' x H2 → g x σ' H2 fun σ2 H3 => tt σ2 H3 fun b H4 => if b = true then te σ2 H4 fun v H5 => ∃ ys, H5 D = some (.lst ys) ∧ ys.length < sizeLine ∧ N σ2 (upd H5 D (.lst (ys ++ [v]))) else N σ2 H4))
    (hns₁ : h₁.Ns s.heap.objs.size mC) (kept : ∀ b o, s.heap.get? b = some o → h₁.get? b = some o)
    (fin : ∀ D C s' H' m, Inv X pins σ H' s' → s'.heap.Ns C m → FpOk X pins H' C → Q (.ref D) H' → compPost (model X.prog X.w) X.A X.xe use Qv (.ref D) C (.ok .next) s') :
    codeAny (model X.prog X.w) X.A (.compStart (.ListComp elt [⟨tg, iter, ifs, 0⟩] scope pos) 0 (.ref it) (.ref D) (compEnvC scope (closC X.env scope.names []) s.heap.objs.size X.env))
      (compPost (model X.prog X.w) X.A X.xe use Qv (.ref D) s.heap.objs.size) { s with heap := h₁, toks := tk } := by
  have ofp : ∀ b ∈ fp, b < s.heap.objs.size := fun b hb => by
    obtain ⟨o, e, _⟩ := T.obj _ _ st2 b hb
    exact Heap.lt_size e
  have J4 := I3.block (N := N) (nt := nt) (fr := fr) (scope := scope) (fp := fp) (h1 := h₁) (C := s.heap.objs.size) (tk := tk) S rfl hns₁ kept f3 ofp
  generalize hY : cxC X pins N scope (closC X.env scope.names []) s.heap.objs.size s H fp = Y at J4
  have body := hb pins (closC X.env scope.names []) s.heap.objs.size s H fp
  rw [hY] at body
  obtain ⟨bg, bt, be⟩ := body
  have eP : Y.prog = X.prog := by rw [← hY]; rfl
  have eW : Y.w = X.w := by rw [← hY]; rfl
  have eK : Y.K = X.K := by rw [← hY]; rfl
  have eA : Y.A = X.A := by rw [← hY]; rfl
  have eC : Y.calm = true := by rw [← hY]; exact hcalm
  have eE : Y.env = compEnvC scope (closC X.env scope.names []) s.heap.objs.size X.env := by rw [← hY]; rfl
  have eX : Y.xe = fun _ _ => False := by rw [← hY]; rfl
  have eN : Y.ex = fp := by rw [← hY]; rfl
  have fY : ∀ {H' : Hp} {s' : Shared} {σ' : St}, Inv Y [] σ' H' s' → (∀ b ∈ fp, H' b = none) → ∀ b ∈ fp, FpOk Y [] H' b := fun {H' s' σ'} J' hn b hbf => by
    obtain ⟨e1, e2⟩ := J'.ok.exf b (by rw [eN]; exact hbf)
    refine ⟨hn b hbf, e1, J'.ok.exfs b (by rw [eN]; exact hbf), .inl (by rw [eN]; exact hbf), e2, fun p hp => ?_⟩
    have hp' : p ∈ X.pn ++ pins := by
      have z : p ∈ Y.pn ++ [] := hp
      rw [List.append_nil, ← hY] at z
      exact z
    exact (f3 b hbf).2.2.2.2.2 p hp'
  have st4 : tn 0 h₁ := T.keep _ _ _ st2 fun b hbf o e => kept b o e
  have fin' : ∀ {σ' : St} {H' : Hp} {s' : Shared}, Inv Y [] σ' H' s' → Q (.ref D) H' → compPost (model X.prog X.w) X.A X.xe use Qv (.ref D) s.heap.objs.size (.ok .next) s' := fun {σ' H' s'} J' q' => by
    obtain ⟨m', hn', _⟩ := J'.loc
    have e : Y.env.locals = s.heap.objs.size := by rw [eE]; rfl
    rw [e] at hn'
    have I' : Inv X pins σ H' s' := by
      rw [← hY] at J'
      exact I3.unblock f3 J'
    have hfree' : H' s.heap.objs.size = none := by
      have z := J'.free
      rw [e] at z
      exact z
    exact fin D s.heap.objs.size s' H' m' I' hn' (I3.fpOk (Nat.le_refl _) hfree') q'
  have loop : codeAny (model X.prog X.w) X.A (.compLoop (.ListComp elt [⟨tg, iter, ifs, 0⟩] scope pos) 0 (.ref it) (.ref D) (compEnvC scope (closC X.env scope.names []) s.heap.objs.size X.env))
      (compPost (model X.prog X.w) X.A X.xe use Qv (.ref D) s.heap.objs.size) { s with heap := h₁, toks := tk } := by
    refine compLoop_any (fun n s' => ∃ i σ' H', Inv Y [] σ' H' s' ∧ tn i s'.heap ∧ (∀ b ∈ fp, H' b = none) ∧ W i n σ' H') ?_ m0 ⟨0, _, _, J4, st4, fun b hbf => (f3 b hbf).1, w0⟩
    rintro n s5 ⟨i, σ5, H5, J5, st5, fr5, w5⟩
    rcases turn i n σ5 H5 w5 with ⟨stop, qn⟩ | ⟨go, Nn, hN, step⟩
    · rw [← eA]
      refine wpAny_mono (T.done Y eP eW eK eC i [] s5 σ5 H5 (fun _ _ => False) J5 (fY J5 fr5) st5 stop) (fun r s6 ⟨hr, J6⟩ => ?_) fun _ _ z => z
      subst hr
      rw [eA]
      exact fin' J6 qn
    · rw [← eA]
      refine wpAny_mono (T.item Y eP eW eK eC i [] s5 σ5 H5 (fun _ _ => False) J5 (fY J5 fr5) st5 go) (fun r s6 ⟨u, hr, h6⟩ => ?_) fun _ _ z => z
      subst hr
      refine wpAny_mono h6 (fun _ s7 ⟨x, H7, J7, r7, y7, st7, fr7⟩ => ?_) fun _ _ z => z
      have J7' := J7.pinned (fY J7 fr7) (T.obj _ _ st7)
      have a1 := bg _ s7 σ5 H7 x u _ J7' r7 (step x H7 y7)
      rw [eP, eW, eE, eX] at a1
      refine wpAny_mono a1 (fun _ s8 ⟨σ8, H8, J8, q8⟩ => ?_) fun _ _ z => z
      have a2 := bt _ s8 σ8 H8 _ J8 q8
      rw [eP, eW, eE, eX] at a2
      refine wpAny_mono a2 (fun ok s9 ⟨H9, J9, q9⟩ => ?_) fun _ _ z => z
      have again : ∀ {σa : St} {Ha : Hp} {sa : Shared}, Inv Y ([] ++ pinsAt fp s7.heap) σa Ha sa → Nn σa Ha → ∃ m, m < n ∧ ∃ i σ' H', Inv Y [] σ' H' sa ∧ tn i sa.heap ∧ (∀ b ∈ fp, H' b = none) ∧ W i m σ' H' := fun {σa Ha sa} Ja na => by
        obtain ⟨m', hm, wa⟩ := hN σa Ha na
        refine ⟨m', hm, i + 1, σa, Ha, Ja.unpinned, T.keep _ _ _ st7 fun b hbf o e => (Ja.pin (b, o) (List.mem_append_right _ (List.mem_append_right _ (mem_pinsAt hbf e)))).1, fun b hbf => ?_, wa⟩
        obtain ⟨o, e, d⟩ := T.obj _ _ st7 b hbf
        exact (Ja.pin (b, o) (List.mem_append_right _ (List.mem_append_right _ (mem_pinsAt hbf e)))).2.1
      cases ok with
      | false =>
        rw [if_neg Bool.false_ne_true] at q9 ⊢
        exact again J9 q9
      | true =>
        rw [if_pos rfl] at q9 ⊢
        have a3 := be _ s9 σ8 H9 _ J9 q9
        rw [eP, eW, eE, eX] at a3
        refine wpAny_mono a3 (fun v s10 ⟨y, H10, J10, r10, ys, hys, hl, q10⟩ => ?_) fun _ _ z => z
        have a4 := mt_append (X := Y) _ s10 σ8 H10 (.ref D) [y] (.ref D) [v] (fun _ Hq => Nn σ8 Hq) J10 rfl (.cons r10 .nil) ⟨D, ys, y, rfl, rfl, hys, hl, q10⟩
        rw [eP, eW, eX] at a4
        refine wpAny_mono a4 (fun _ s11 ⟨_, H11, J11, _, q11⟩ => ?_) fun _ _ z => z
        exact again J11 q11
  exact codeAny_compStart_list loop (T.self _ 0 _ _ _ st4 loop)
theorem comp_core {elt tg iter : Expr} {ifs : List Expr} {scope : Scope} {pos pos' : Pos} {N : List Str} {nt : Nat} {fr : List Nat} {wi : TI} {g : TG} {tt : TT} {te : TE} {use : Option (Value → Sem Unit)} {Qv : Value → Shared → Prop} {Q : VK}
    (I : Inv X pins σ H s) (hcalm : X.calm = true) (S : CompScope X N nt fr scope) (hi : PI X tg iter wi)
    (hb : ∀ pins' cl C s3 H3 fp, let Y := cxC X pins' N scope cl C s3 H3 fp; PG Y tg g ∧ PIfs Y ifs tt ∧ PE Y elt te)
    (q : tComp nt fr wi g tt te σ H Q)
    (fin : ∀ D C s' H' m, Inv X pins σ H' s' → s'.heap.Ns C m → FpOk X pins H' C → Q (.ref D) H' → compPost (model X.prog X.w) X.A X.xe use Qv (.ref D) C (.ok .next) s')
    (hs : ∀ x, foldedSetIterable iter X.env x = pure x := by intro _; rfl) :
    wpAny (model X.prog X.w) X.A (comprehension (.ListComp elt [⟨tg, iter, ifs, 0⟩] scope pos) scope X.env pos' (newList []) false (eval iter X.env) use) Qv X.xe s := by
  have hfree : ∀ x ∈ scope.names, x.2 = NameKind.free → ∃ c, X.env.cells.lookup x.1 = some c := fun x hx e => I.ok.has x.1 (.inl (S.free x hx e))
  refine wpAny_comprehension_free rfl hs (closC_eq hfree) S.kind S.names (thn (hi pins s σ H _ I q) fun v s1 h1 => thn h1 fun itv s2 h2 => ?_)
  obtain ⟨it, fp, tn, J, H2, rfl, I2, T, st2, f2, q2⟩ := h2
  refine wpAny_newObj_type (wpAny_newFunctionEnv S.cell (by intro y hy; simp at hy) (fun h₁ hns₁ hsb₁ => ?_) S.kind)
  dsimp only at hns₁ hsb₁ ⊢
  have I3 : Inv X pins σ (upd H2 s2.heap.objs.size (.lst [])) { s2 with heap := s2.heap.push { cls := .type "list", data := .seq ([] : List Value).toArray } } := I2.lnew (its := []) (ys := []) (t' := s2.toks) .nil (by simp)
  obtain ⟨W, ⟨m0, w0⟩, turn⟩ := q2 s2.heap.objs.size I2.fresh
  have ofp : ∀ b ∈ fp, b < s2.heap.objs.size := fun b hb => by
    obtain ⟨o, e, _⟩ := T.obj _ _ st2 b hb
    exact Heap.lt_size e
  have f3 : ∀ b ∈ fp, FpOk X pins (upd H2 s2.heap.objs.size (.lst [])) b := fun b hb => by
    obtain ⟨f0, fr'⟩ := f2 b hb
    exact ⟨by rw [upd_ne (Nat.ne_of_lt (ofp b hb))]; exact f0, fr'⟩
  exact comp_core2 (D := s2.heap.objs.size) (tn := tn) (W := W) (m0 := m0) (tk := s2.toks + ([] : List (Str × Value)).length) I3 hcalm S hb T (T.keep _ _ _ st2 fun b hbf o e => Heap.get?_push_of_some _ e) f3 w0 turn hns₁
    (fun b o e => hsb₁.extBut b o (Nat.ne_of_lt (Heap.lt_size e)) (Heap.get?_push_of_some _ e)) fin
end
end L2
namespace L2
open PySem PySem.Spec PyProof.Rows
section
variable {X : Cx}
theorem pe_comp {elt tg iter : Expr} {ifs : List Expr} {scope : Scope} {pos : Pos} {N : List Str} {nt : Nat} {fr : List Nat} {wi : TI} {g : TG} {tt : TT} {te : TE}
    (hcalm : X.calm = true) (S : CompScope X N nt fr scope) (hi : PI X tg iter wi)
    (hb : ∀ pins' cl C s3 H3 fp, let Y := cxC X pins' N scope cl C s3 H3 fp; PG Y tg g ∧ PIfs Y ifs tt ∧ PE Y elt te)
    (hs : ∀ x, foldedSetIterable iter X.env x = pure x := by intro _; rfl) :
    PE X (.ListComp elt [⟨tg, iter, ifs, 0⟩] scope pos) (tComp nt fr wi g tt te) := by
  intro pins s σ H Q I q
  rw [eval_ListComp]
  refine comp_core (use := none) (Qv := EP X pins σ Q) I hcalm S hi hb q (fun D C s' H' m J hn f q' => ?_) hs
  exact ⟨m, hn, fun h' hs' => ⟨.ref D, H', J.turned (t' := s'.toks) (fun b o hb e => (hs'.2 b hb).trans e) f.1 f.2.1 f.2.2.2.1 f.2.2.2.2.1 f.2.2.2.2.2, rfl, q'⟩⟩
theorem ps_setComp {i : Nat} {y : Str} {py spos : Pos} {elt tg iter : Expr} {ifs : List Expr} {scope : Scope} {pos : Pos} {N : List Str} {nt : Nat} {fr : List Nat} {wi : TI} {g : TG} {tt : TT} {te : TE}
    (hN : X.N.Nodup) (hj : X.N[i]? = some y) (hy : Loc X.env.scope y)
    (hcalm : X.calm = true) (S : CompScope X N nt fr scope) (hi : PI X tg iter wi)
    (hb : ∀ pins' cl C s3 H3 fp, let Y := cxC X pins' N scope cl C s3 H3 fp; PG Y tg g ∧ PIfs Y ifs tt ∧ PE Y elt te)
    (hsw : swapsWith (.ListComp elt [⟨tg, iter, ifs, 0⟩] scope pos) (some (.Name y py)) spos.line X.env = pure true := by rfl)
    (hs : ∀ x, foldedSetIterable iter X.env x = pure x := by intro _; rfl) (hf : X.fn y = true ∨ X.env.scope.names.lookup y = some .local := by first | exact .inl rfl | exact .inr rfl | assumption) :
    PS X (.Assign [.Name y py] (.ListComp elt [⟨tg, iter, ifs, 0⟩] scope pos) spos) (tAsg (tComp nt fr wi g tt te) (gName i)) := by
  intro pins s σ H D I q
  rw [exec_Assign_Name_used _ _ _ _ hsw]
  refine wpAny_bind (wpAny_standAt (wpAny_bind ?_))
  show wpAny _ _ (do let _ ← comprehension (.ListComp elt [⟨tg, iter, ifs, 0⟩] scope pos) scope X.env _ (newList []) false (eval iter X.env) (some (assign (.Name y py) X.env))) _ _ s
  refine wpAny_bind (wpAny_mono (comp_core (use := some (assign (.Name y py) X.env)) (Qv := fun _ s' => SP X pins D .next s') (Q := fun v H1 => gName i v σ H1 D.nx) I hcalm S hi hb q (fun D' C s' H' m J hn f q' => ?_) hs) (fun _ s' hq => wpAny_pure (wpAny_pure hq)) fun _ _ e => e)
  show wpAny _ _ (assign (.Name y py) X.env (.ref D')) _ _ _
  refine wpAny_assign_Name (store_ok2 J hN hj hy (v := .ref D') rfl (fun s'' J'' ⟨a, hsb, ha⟩ => ?_) hf)
  have hCa : C ≠ a := by
    rcases ha with ha | ha
    · rw [ha]; exact f.2.1
    · exact fun z => f.2.2.2.2.1 y a ha z.symm
  refine ⟨m, hn.sameBut hsb hCa, fun h' hs' => ⟨_, H', J''.turned (t' := s''.toks) (fun b o hb e => (hs'.2 b hb).trans e) f.1 f.2.1 f.2.2.2.1 f.2.2.2.2.1 f.2.2.2.2.2, q'⟩⟩
end
theorem same_new {H : Hp} {D : Addr} {o : HO} (h : H D = none) : Same H (upd H D o) := fun b u e => by rw [upd_ne (ne_of_none e h)]; exact e
theorem take_snoc {α : Type} {xs : List α} {i : Nat} {x : α} (h : xs[i]? = some x) : xs.take (i + 1) = xs.take i ++ [x] := by
  rw [List.take_add_one, h]; rfl
theorem comp_list {K : PySem.W.Frag} {a : Addr} {xs : List V} {fr : List Nat} {tt : TT} {te : TE} {σ : St} {H : Hp} {Q : VK} {D : Addr} (p : V → Bool) (f : V → V) (hD : H D = none) (hq : SqL K H a xs) (hz : xs.length < sizeLine)
    (ht : ∀ x ys (Qt : Bool → Hp → Prop), x ∈ xs → Qt (p x) (upd H D (.lst ys)) → tt (some x :: fr.map fun i => (σ[i]?).join) (upd H D (.lst ys)) Qt)
    (he : ∀ x ys (Qe : VK), x ∈ xs → p x = true → Qe (f x) (upd H D (.lst ys)) → te (some x :: fr.map fun i => (σ[i]?).join) (upd H D (.lst ys)) Qe)
    (fin : Q (.ref D) (upd H D (.lst ((xs.filter p).map f)))) :
    ∃ W : Nat → Nat → St → Hp → Prop, (∃ m, W 0 m (startC 1 fr σ) (upd H D (.lst []))) ∧
      ∀ i m σ' H', W i m σ' H' → ((Itl K a).stop i H' ∧ Q (.ref D) H') ∨ ((Itl K a).go i H' ∧ ∃ N : St → Hp → Prop, (∀ σ2 H2, N σ2 H2 → ∃ m', m' < m ∧ W (i + 1) m' σ2 H2) ∧
        ∀ x H2, (Itl K a).yld i H' x H2 → gName 0 x σ' H2 fun σ2 H3 => tt σ2 H3 fun b H4 => if b = true then te σ2 H4 fun v H5 => ∃ ys, H5 D = some (.lst ys) ∧ ys.length < sizeLine ∧ N σ2 (upd H5 D (.lst (ys ++ [v]))) else N σ2 H4) := by
  refine ⟨fun i m σ' H' => m = xs.length - i ∧ i ≤ xs.length ∧ (∃ o, σ' = o :: fr.map fun i => (σ[i]?).join) ∧ H' = upd H D (.lst (((xs.take i).filter p).map f)), ⟨xs.length, by simp, Nat.zero_le _, ⟨none, rfl⟩, by simp⟩, ?_⟩
  rintro i m σ' H' ⟨rfl, hi, ⟨o, rfl⟩, rfl⟩
  have hq' : SqL K (upd H D (.lst (((xs.take i).filter p).map f))) a xs := (same_new hD).seq hq
  by_cases hlt : i < xs.length
  · refine .inr ⟨⟨xs, xs[i], hq', by simp [hlt]⟩, fun σ2 H2 => (∃ o, σ2 = o :: fr.map fun i => (σ[i]?).join) ∧ H2 = upd H D (.lst (((xs.take (i + 1)).filter p).map f)), fun σ2 H2 ⟨h1, h2⟩ => ⟨xs.length - (i + 1), by omega, rfl, hlt, h1, h2⟩, fun x H2 y => ?_⟩
    obtain ⟨e, y⟩ := y
    subst e
    have hx : xs[i]? = some x := y xs hq'
    have hm : x ∈ xs := List.mem_of_getElem? hx
    show tt ((o :: fr.map fun i => (σ[i]?).join).set 0 (some x)) _ _
    refine ht x _ _ hm ?_
    rw [take_snoc hx, List.filter_append, List.map_append]
    cases hp : p x with
    | false =>
      refine iteF ⟨⟨_, rfl⟩, ?_⟩
      simp [hp]
    | true =>
      refine iteT (he x _ _ hm hp ⟨_, upd_same, ?_, ⟨_, rfl⟩, ?_⟩)
      · rw [List.length_map]
        have h1 : ((xs.take i).filter p).length ≤ (xs.take i).length := List.length_filter_le _ _
        have h2 : (xs.take i).length ≤ xs.length := by rw [List.length_take]; omega
        omega
      · rw [upd_upd]
        simp [hp]
  · have e : i = xs.length := by omega
    subst e
    refine .inl ⟨⟨xs, hq', Nat.le_refl _⟩, ?_⟩
    rw [List.take_length]
    exact fin
end L2
namespace L2
open PySem PySem.Spec PyProof.Rows
def Ite (K : PySem.W.Frag) (a : Addr) : It :=
  ⟨fun i H => ∃ xs x, SqL K H a xs ∧ xs[i]? = some x, fun i H x H' => ∃ p y, H p = none ∧ x = .ref p ∧ H' = upd H p (.tup [.int i, y]) ∧ ∀ xs, SqL K H a xs → xs[i]? = some y, fun i H => ∃ xs, SqL K H a xs ∧ xs.length ≤ i⟩
theorem turn_enum {P : Program} {w : World} {K : PySem.W.Frag} {elts : List Expr} {k : Nat} {pos : Pos} (a it e : Addr) (hei : e ≠ it) : Turn P w K (.Tuple elts k pos) (Ite K a) [e, it] e (fun i h => (∃ old, IsEnum h e it i old) ∧ h.IsListIter it a i) where
  mem := by simp
  obj := fun i h st b hb => by
    obtain ⟨⟨old, he⟩, o, ho, hc, hd⟩ := st
    rcases List.mem_cons.mp hb with rfl | hb
    · exact ⟨_, he, fun v z => by
        have z' : Data.fields _ = Data.cell v := z
        cases z'⟩
    · have e' : b = it := by simpa using hb
      subst e'
      exact ⟨o, ho, fun v z => by rw [hd] at z; cases z⟩
  keep := fun i h h' st k => by
    obtain ⟨⟨old, he⟩, hit⟩ := st
    exact ⟨⟨old, k e (by simp) _ he⟩, hit.at fun o x => k it (by simp) o x⟩
  item := by
    intro X hP hw hK hc i pins s σ H E I hf st hg
    subst hP hw hK
    obtain ⟨xs, x, hq, hx⟩ := hg
    obtain ⟨⟨old, he⟩, hit⟩ := st
    obtain ⟨its, rv, p, hz⟩ := I.list hq
    obtain ⟨u, hu, ru⟩ := rv.get hx
    refine wpAny_pyNext_enum_item he hit p.isList (x := u) (by simpa using hu) hei fun h' ho hit' hT hsz hk => ⟨_, rfl, ?_⟩
    refine wpAny_letOwnedTupleGo_enum ho fun h'' he'' hs'' => ?_
    have helt : e < s.heap.objs.size := Heap.lt_size he
    have hTe : s.heap.objs.size ≠ e := Nat.ne_of_gt helt
    have hn : H s.heap.objs.size = none := I.hok.fresh (Nat.le_refl _)
    have hk' : ∀ b o, b ≠ e → b ≠ it → s.heap.get? b = some o → h''.get? b = some o := fun b o h1 h2 q => (hs''.2 b h1).trans (hk b o h1 h2 q)
    have hT' : h''.get? s.heap.objs.size = some { cls := .type "tuple", data := .seq #[.int i s.toks, u] } := (hs''.2 _ hTe).trans hT
    have nt : ∀ b o, H b = some o → b ≠ e ∧ b ≠ it := fun b o q => by
      constructor
      · rintro rfl
        rw [(hf b (by simp)).1] at q; cases q
      · rintro rfl
        rw [(hf b (by simp)).1] at q; cases q
    have fl := hf e (by simp)
    have fi := hf it (by simp)
    have I1 : Inv X pins σ (upd H s.heap.objs.size (.tup [.int i, x])) { s with heap := h'', toks := s.toks + 1 } := by
      refine I.step (g' := s.gens) (d' := s.drawn) (ch := [e, it]) (fun b hb => ?_) (fun b o _ _ hc' q _ => hk' b o (fun z => hc' (by simp [z])) (fun z => hc' (by simp [z])) q)
        (fun b o _ _ hc' q _ => ⟨o.slots, hk' b o (fun z => hc' (by simp [z])) (fun z => hc' (by simp [z])) q⟩) (fun b o _ q n => ?_) (fun b o hc' q => ⟨o, hk' b o (fun z => hc' (by simp [z])) (fun z => hc' (by simp [z])) q⟩)
        (fun b ys q => ?_) (fun b o u' q => ?_) (fun b ps q => ⟨#[], ?_⟩) (fun m hm => ?_) (fun b o q => ?_) I.bare
      · have hb' : b ∈ [e, it] := hb
        exact ⟨(hf b hb').2.2.2.1, (hf b hb').2.1, (hf b hb').2.2.2.2.1, (hf b hb').2.2.2.2.2⟩
      · rw [upd_ne (Nat.ne_of_lt (Heap.lt_size q))]; exact n
      · rw [upd_ne (ne_of_none q hn)]; exact q
      · rw [upd_ne (ne_of_none q hn)]; exact q
      · rw [upd_ne (ne_of_none q hn), q]; simp
      · obtain ⟨o, es, ep, ho', r⟩ := hm
        exact ⟨o, es, ep, hk' _ o (Ne.symm fl.2.1) (Ne.symm fi.2.1) ho', r⟩
      · by_cases hb : b = s.heap.objs.size
        · subst hb
          rw [upd_same] at q
          cases q
          refine ⟨by simp only [List.length_cons, List.length_nil]; rw [sizeLine_eq]; decide, [.int i s.toks, u], .cons ⟨_, rfl⟩ (.cons ru .nil), _, hT', rfl, 0, rfl⟩
        · rw [upd_ne hb] at q
          refine (I.hok b o q).stay (fun c v hc' q' => ?_) (fun c q' => by rw [upd_ne (ne_of_none q' hn)]; exact q') fun c ys q' => by rw [upd_ne (ne_of_none q' hn)]; exact q'
          rcases hc' with z | z
          · rw [z] at q' ⊢
            exact hk' b v (nt b o q).1 (nt b o q).2 q'
          · exact hk' c v (nt c _ z).1 (nt c _ z).2 q'
    refine ⟨.ref s.heap.objs.size, _, I1, rfl, ⟨_, x, hn, rfl, rfl, fun ys hy => by rw [I.list_inj hy hq]; exact hx⟩, ⟨⟨u, by simpa using he''⟩, hit'.at fun o q => (hs''.2 it (Ne.symm hei)).trans q⟩, fun b hb => ?_⟩
    have hbl : b < s.heap.objs.size := by
      rcases List.mem_cons.mp hb with rfl | hb
      · exact helt
      · have e' : b = it := by simpa using hb
        subst e'
        obtain ⟨o, q, _⟩ := hit
        exact Heap.lt_size q
    rw [upd_ne (Nat.ne_of_lt hbl)]
    exact (hf b hb).1
  done := by
    intro X hP hw hK hc i pins s σ H E I hf st hg
    subst hP hw hK
    obtain ⟨xs, hq, hx⟩ := hg
    obtain ⟨⟨old, he⟩, hit⟩ := st
    obtain ⟨its, rv, p, hz⟩ := I.list hq
    obtain ⟨f0, f1, f2, f3, f4, f5⟩ := hf it (by simp)
    have hl := rv.length
    exact wpAny_pyNext_enum_end (I.ok.hd hc) he hit p.isList (by simp; omega) fun h' eb => ⟨rfl, I.turned (t' := s.toks) (fun b o hb e => eb b o hb e) f0 f1 f3 f4 f5⟩
  self := fun _ _ _ _ _ st h => by
    obtain ⟨⟨old, he⟩, _⟩ := st
    exact wpAny_pyIter_enum he h
def iEnum (K : PySem.W.Frag) (ta : TA) : TI := fun σ H R => ta σ H fun vs H1 => ∃ a, vs = [.ref a] ∧ (∃ xs, SqL K H1 a xs) ∧ R (Ite K a) H1
theorem pi_enum {X : Cx} {elts : List Expr} {k : Nat} {tpos p pos : Pos} {a : Expr} {ta : TA} (hg : Gl X "enumerate") (hm : X.mg "enumerate" = none) (ha : PA X [a] ta) (hs : starEach [a] X.env = [(false, eval a X.env)] := by rfl) :
    PI X (.Tuple elts k tpos) (.Call (.Name "enumerate" p) [a] [] pos) (iEnum X.K ta) := by
  intro pins s σ H R I h
  refine Call_ (ld_blt I hg hm boot_enumerate (PyProof.Rows.callWith_type1 (thn (ha pos pins s σ H _ I h) fun us s1 ⟨vs, H1, I1, r1, q1⟩ => ?_) hs rfl))
  obtain ⟨l, e, ⟨xs, hq⟩, q⟩ := q1
  subst e
  cases r1 with
  | cons r rr =>
    cases rr
    cases r
    obtain ⟨its, rv, pl, hz⟩ := I1.list hq
    refine call_enumerate_list pl.isList fun h' he hit hsz hk => ?_
    have I2 : Inv X pins σ H1 { s1 with heap := h' } := I1.kept (t' := s1.toks) hk
    refine wpAny_pyIter_enum he ?_
    refine ⟨s1.heap.objs.size + 1, [s1.heap.objs.size + 1, s1.heap.objs.size], _, _, H1, rfl, I2, turn_enum l s1.heap.objs.size (s1.heap.objs.size + 1) (Nat.succ_ne_self _), ⟨⟨_, he⟩, hit⟩, fun b hb => ?_, q⟩
    have hb' : s1.heap.objs.size ≤ b := by
      rcases List.mem_cons.mp hb with rfl | hb
      · exact Nat.le_succ _
      · have e' : b = s1.heap.objs.size := by simpa using hb
        subst e'
        exact Nat.le_refl _
    exact I1.fpOk hb' (I1.hok.fresh hb')
theorem for_enum {K : PySem.W.Frag} {a : Addr} {xs : List V} {g : TG} {tb : TS} {D : Ends} {σ : St} {H : Hp} (Pv : Nat → St → Hp → Prop) (h0 : Pv 0 σ H) (hl : ∀ i σ H, i ≤ xs.length → Pv i σ H → SqL K H a xs)
    (hs : ∀ i x σ H p, xs[i]? = some x → Pv i σ H → H p = none → g (.ref p) σ (upd H p (.tup [.int i, x])) fun σ2 H2 => tb { D with nx := Pv (i + 1), ct := Pv (i + 1), bk := D.nx } σ2 H2) (hd : ∀ σ H, Pv xs.length σ H → D.nx σ H) :
    ∃ W : Nat → Nat → St → Hp → Prop, (∃ m, W 0 m σ H) ∧ ∀ i m σ H, W i m σ H →
      ((Ite K a).stop i H ∧ D.nx σ H) ∨ ((Ite K a).go i H ∧ ∃ N : St → Hp → Prop, (∀ σ' H', N σ' H' → ∃ m', m' < m ∧ W (i + 1) m' σ' H') ∧ ∀ x H', (Ite K a).yld i H x H' → g x σ H' fun σ2 H2 => tb { D with nx := N, ct := N, bk := D.nx } σ2 H2) := by
  refine ⟨fun i m σ H => m = xs.length - i ∧ i ≤ xs.length ∧ Pv i σ H, ⟨xs.length, by simp, Nat.zero_le _, h0⟩, ?_⟩
  rintro i m σ H ⟨rfl, hi, p⟩
  have q := hl i σ H hi p
  by_cases hlt : i < xs.length
  · refine .inr ⟨⟨xs, xs[i], q, by simp [hlt]⟩, Pv (i + 1), fun σ' H' p' => ⟨xs.length - (i + 1), by omega, rfl, hlt, p'⟩, fun x H' y => ?_⟩
    obtain ⟨t, z, hn, rfl, rfl, y⟩ := y
    exact hs i z σ H t (y xs q) p hn
  · have e : i = xs.length := by omega
    subst e
    exact .inl ⟨⟨xs, q, Nat.le_refl _⟩, hd σ H p⟩
mutual
inductive DatA (K : PySem.W.Frag) (H : Hp) : V → PyData → Prop where
  | non : DatA K H .non .none
  | bl (b : Bool) : DatA K H (.bl b) (.bool b)
  | int (i : Int) : DatA K H (.int i) (.int i)
  | str (x : Str) : DatA K H (.str x) (.str x)
  | lst {a : Addr} {xs : List V} {ds : List PyData} : SqL K H a xs → DatAs K H xs ds → DatA K H (.ref a) (.list ds)
  | tup {a : Addr} {xs : List V} {ds : List PyData} : SqT K H a xs → DatAs K H xs ds → DatA K H (.ref a) (.tuple ds)
inductive DatAs (K : PySem.W.Frag) (H : Hp) : List V → List PyData → Prop where
  | nil : DatAs K H [] []
  | cons {x : V} {xs : List V} {d : PyData} {ds : List PyData} : DatA K H x d → DatAs K H xs ds → DatAs K H (x :: xs) (d :: ds)
end
mutual
theorem reads_of {X : Cx} {pins : List (Addr × Obj)} {σ : St} {H : Hp} {s : Shared} (I : Inv X pins σ H s) : ∀ {x : V} {d : PyData}, DatA X.K H x d → ∀ {u : Value}, RelV x u → ∃ as, Reads s.heap u d as
  | _, _, .non, _, r => by cases r; exact ⟨[], .none⟩
  | _, _, .bl b, _, r => by cases r; exact ⟨[], .bool b⟩
  | _, _, .int i, _, r => by obtain ⟨t, rfl⟩ := r; exact ⟨[], .int i t⟩
  | _, _, .str x, _, r => by obtain ⟨t, rfl⟩ := r; exact ⟨[], .str x t⟩
  | _, _, .lst h hs, _, r => by
    cases r
    obtain ⟨its, rv, ⟨o, n, e, c, _, d⟩, _⟩ := I.list h
    obtain ⟨as, ra⟩ := reads_all I hs rv
    exact ⟨_, .list e c d ra⟩
  | _, _, .tup h hs, _, r => by
    cases r
    obtain ⟨its, rv, ⟨o, e, c, n, d⟩, _⟩ := I.tuple h
    obtain ⟨as, ra⟩ := reads_all I hs rv
    exact ⟨_, .tuple e c d ra⟩
theorem reads_all {X : Cx} {pins : List (Addr × Obj)} {σ : St} {H : Hp} {s : Shared} (I : Inv X pins σ H s) : ∀ {xs : List V} {ds : List PyData}, DatAs X.K H xs ds → ∀ {us : List Value}, Vals xs us → ∃ as, ReadsAll s.heap us ds as
  | _, _, .nil, _, r => by cases r; exact ⟨[], .nil⟩
  | _, _, .cons h hs, _, r => by
    cases r with
    | cons r1 r2 =>
      obtain ⟨as, ra⟩ := reads_of I h r1
      obtain ⟨bs, rb⟩ := reads_all I hs r2
      exact ⟨_, .cons ra rb⟩
end
def rEqD (K : PySem.W.Frag) (neg : Bool) : R2 := fun x y H Q => ∃ da db, DatA K H x da ∧ DatA K H y db ∧ PySem.SeqAt.shaped da = true ∧ PySem.SeqAt.shaped db = true ∧ Q (.bl (if neg then !PyData.eqv da db else PyData.eqv da db)) H
theorem op_eqD {X : Cx} (hu : X.A.units + 64 < cLine) : OpR X (compareOp .Eq) (rEqD X.K false) := by
  intro pins s σ H x y v u Q I rx ry h
  obtain ⟨da, db, ha, hb, sa, sb, q⟩ := h
  obtain ⟨as, ra⟩ := reads_of I ha rx
  obtain ⟨bs, rb⟩ := reads_of I hb ry
  exact PySem.SeqAt.compareEq_shaped ra rb sa sb hu ⟨.bl _, H, I, rfl, q⟩
theorem op_neD {X : Cx} (hu : X.A.units + 64 < cLine) : OpR X (compareOp .NotEq) (rEqD X.K true) := by
  intro pins s σ H x y v u Q I rx ry h
  obtain ⟨da, db, ha, hb, sa, sb, q⟩ := h
  obtain ⟨as, ra⟩ := reads_of I ha rx
  obtain ⟨bs, rb⟩ := reads_of I hb ry
  exact PySem.SeqAt.compareNe_shaped ra rb sa sb hu ⟨.bl _, H, I, rfl, q⟩
end L2
namespace RC
open PySem
abbrev Deed := Int × Str × Int
abbrev W.take : Str := "take"
abbrev W.give : Str := "give"
abbrev W.fork : Str := "fork"
abbrev W.wait : Str := "wait"
def words : List Str := ["read", "write", "take", "give", "fork", "wait"]
def form (many : Int) (d : Deed) : Option Str :=
  if ¬ (0 ≤ d.1 ∧ d.1 < many) then some "thread"
  else if ¬ d.2.1 ∈ words then some "word"
  else if d.2.2 < 0 ∨ ((d.2.1 = W.fork ∨ d.2.1 = W.wait) ∧ many ≤ d.2.2) then some "thing" else none
structure Pst where
  awake : Int → Bool
  gone : Int → Bool
  hold : Int → Option Int
def pst0 : Pst := ⟨fun n => decide (n = 0), fun _ => false, fun _ => none⟩
def follow (s : Pst) (d : Deed) : Pst :=
  ⟨fun n => s.awake n || decide (d.2.1 = W.fork ∧ n = d.2.2), fun n => s.gone n || decide (d.2.1 = W.wait ∧ n = d.2.2),
   fun n => if n = d.2.2 ∧ d.2.1 = W.take then some d.1 else if n = d.2.2 ∧ d.2.1 = W.give then none else s.hold n⟩
def thF (s : Pst) (t : Int) : Option Str := if s.awake t = false then some "asleep" else if s.gone t = true then some "gone" else none
def woF (s : Pst) (d : Deed) : Option Str :=
  if d.2.1 = W.take ∧ (s.hold d.2.2).isSome = true then some "held"
  else if d.2.1 = W.give ∧ s.hold d.2.2 ≠ some d.1 then some "loose"
  else if d.2.1 = W.fork ∧ s.awake d.2.2 = true then some "twice"
  else if d.2.1 = W.wait ∧ s.awake d.2.2 = false then some "unborn"
  else if d.2.1 = W.wait ∧ d.2.2 = d.1 then some "self" else none
def stF (s : Pst) (d : Deed) : Option Str := (thF s d.1).or (woF s d)
def faultOf (many : Int) (s : Pst) (d : Deed) : Option Str := (form many d).or (stF s d)
def stOf (ds : List Deed) : Pst := ds.foldl follow pst0
theorem stOf_snoc (ds : List Deed) (d : Deed) : stOf (ds ++ [d]) = follow (stOf ds) d := by
  unfold stOf
  rw [List.foldl_append]
  rfl
def Fault (many : Int) (ds : List Deed) : Option (Nat × Str) → Prop
  | none => ∀ j d, ds[j]? = some d → faultOf many (stOf (ds.take j)) d = none
  | some (i, w) => (∃ d, ds[i]? = some d ∧ faultOf many (stOf (ds.take i)) d = some w) ∧ ∀ j d, j < i → ds[j]? = some d → faultOf many (stOf (ds.take j)) d = none
theorem Fault.inj {many : Int} {ds : List Deed} : ∀ {r r' : Option (Nat × Str)}, Fault many ds r → Fault many ds r' → r = r'
  | none, none, _, _ => rfl
  | none, some (i, w), h, ⟨⟨d, e, f⟩, _⟩ => by rw [h i d e] at f; cases f
  | some (i, w), none, ⟨⟨d, e, f⟩, _⟩, h => by rw [h i d e] at f; cases f
  | some (i, w), some (j, v), ⟨⟨d, e, f⟩, h⟩, ⟨⟨d', e', f'⟩, h'⟩ => by
    rcases Nat.lt_trichotomy i j with q | q | q
    · rw [h' i d q e] at f; cases f
    · subst q
      rw [e] at e'
      cases e'
      rw [f] at f'
      cases f'
      rfl
    · rw [h j d' q e'] at f'; cases f'
def awakeL (l : List Deed) : List Int := 0 :: (l.filter fun o => decide (o.2.1 = W.fork)).map fun o => o.2.2
def goneL (l : List Deed) : List Int := (l.filter fun o => decide (o.2.1 = W.wait)).map fun o => o.2.2
def lockL (l : List Deed) (x : Int) : List Deed := l.filter fun o => decide (o.2.2 = x) && (decide (o.2.1 = W.take) || decide (o.2.1 = W.give))
theorem snoc_ind {α : Type} {P : List α → Prop} (h0 : P []) (hs : ∀ l a, P l → P (l ++ [a])) (l : List α) : P l := by
  have key : ∀ r : List α, P r.reverse := by
    intro r
    induction r with
    | nil => exact h0
    | cons a r ih => rw [List.reverse_cons]; exact hs _ a ih
  have := key l.reverse
  rwa [List.reverse_reverse] at this
theorem awake_eq (l : List Deed) : ∀ n : Int, (stOf l).awake n = decide (n ∈ awakeL l) := by
  refine snoc_ind (P := fun l => ∀ n : Int, (stOf l).awake n = decide (n ∈ awakeL l)) (fun n => ?_) (fun l d ih n => ?_) l
  · simp [stOf, pst0, awakeL]
  · rw [stOf_snoc]
    show ((stOf l).awake n || decide (d.2.1 = W.fork ∧ n = d.2.2)) = _
    rw [ih n]
    rw [← Bool.decide_or]
    refine decide_eq_decide.mpr ?_
    have e : awakeL (l ++ [d]) = awakeL l ++ (([d].filter fun o => decide (o.2.1 = W.fork)).map fun o => o.2.2) := by
      unfold awakeL
      rw [List.filter_append, List.map_append, List.cons_append]
    rw [e, List.mem_append]
    by_cases h : d.2.1 = W.fork
    · rw [List.filter_cons, if_pos (by simp [h])]
      simp [h]
    · rw [List.filter_cons, if_neg (by simp [h])]
      simp [h]
theorem gone_eq (l : List Deed) : ∀ n : Int, (stOf l).gone n = decide (n ∈ goneL l) := by
  refine snoc_ind (P := fun l => ∀ n : Int, (stOf l).gone n = decide (n ∈ goneL l)) (fun n => ?_) (fun l d ih n => ?_) l
  · simp [stOf, pst0, goneL]
  · rw [stOf_snoc]
    show ((stOf l).gone n || decide (d.2.1 = W.wait ∧ n = d.2.2)) = _
    rw [ih n]
    rw [← Bool.decide_or]
    refine decide_eq_decide.mpr ?_
    have e : goneL (l ++ [d]) = goneL l ++ (([d].filter fun o => decide (o.2.1 = W.wait)).map fun o => o.2.2) := by
      unfold goneL
      rw [List.filter_append, List.map_append]
    rw [e, List.mem_append]
    by_cases h : d.2.1 = W.wait
    · rw [List.filter_cons, if_pos (by simp [h])]
      simp [h]
    · rw [List.filter_cons, if_neg (by simp [h])]
      simp [h]
def behind (l : List Deed) (d : Deed) : Option Str :=
  if ¬ d.1 ∈ awakeL l then some "asleep"
  else if d.1 ∈ goneL l then some "gone"
  else if d.2.1 = W.take ∧ ∃ o, (lockL l d.2.2).getLast? = some o ∧ o.2.1 = W.take then some "held"
  else if d.2.1 = W.give ∧ (lockL l d.2.2).getLast? ≠ some (d.1, W.take, d.2.2) then some "loose"
  else if d.2.1 = W.fork ∧ d.2.2 ∈ awakeL l then some "twice"
  else if d.2.1 = W.wait ∧ ¬ d.2.2 ∈ awakeL l then some "unborn"
  else if d.2.1 = W.wait ∧ d.2.2 = d.1 then some "self" else none
end RC
namespace RC
open PySem
abbrev W.read : Str := "read"
abbrev W.write : Str := "write"
theorem nTG : W.take ≠ W.give := by decide +kernel
theorem nTF : W.take ≠ W.fork := by decide +kernel
theorem nTW : W.take ≠ W.wait := by decide +kernel
theorem nGF : W.give ≠ W.fork := by decide +kernel
theorem nGW : W.give ≠ W.wait := by decide +kernel
theorem nFW : W.fork ≠ W.wait := by decide +kernel
theorem nRT : W.read ≠ W.take := by decide +kernel
theorem nRG : W.read ≠ W.give := by decide +kernel
theorem nRF : W.read ≠ W.fork := by decide +kernel
theorem nRW : W.read ≠ W.wait := by decide +kernel
theorem nWT : W.write ≠ W.take := by decide +kernel
theorem nWG : W.write ≠ W.give := by decide +kernel
theorem nWF : W.write ≠ W.fork := by decide +kernel
theorem nWW : W.write ≠ W.wait := by decide +kernel
theorem mem_words {w : Str} (h : w = W.read ∨ w = W.write ∨ w = W.take ∨ w = W.give ∨ w = W.fork ∨ w = W.wait) : w ∈ words := by
  unfold words
  rcases h with rfl | rfl | rfl | rfl | rfl | rfl <;> simp
theorem getElem_snoc {α : Type} {l : List α} {a b : α} {j : Nat} (h : (l ++ [a])[j]? = some b) : l[j]? = some b ∨ (j = l.length ∧ b = a) := by
  rcases Nat.lt_trichotomy j l.length with q | q | q
  · rw [List.getElem?_append_left q] at h; exact .inl h
  · subst q
    rw [List.getElem?_append_right (Nat.le_refl _)] at h
    simp at h
    exact .inr ⟨rfl, h.symm⟩
  · rw [List.getElem?_append_right (Nat.le_of_lt q)] at h
    have : j - l.length ≠ 0 := by omega
    cases e : j - l.length with
    | zero => omega
    | succ k => rw [e] at h; simp at h
theorem Fault.snoc {many : Int} {ds : List Deed} {d : Deed} (h : Fault many ds none) (f : faultOf many (stOf ds) d = none) : Fault many (ds ++ [d]) none := fun j e he => by
  rcases getElem_snoc he with q | ⟨rfl, rfl⟩
  · have hj : j < ds.length := (List.getElem?_eq_some_iff.mp q).1
    rw [List.take_append_of_le_length (Nat.le_of_lt hj)]
    exact h j e q
  · rw [List.take_append_of_le_length (Nat.le_refl _), List.take_length]
    exact f
theorem orF {a : Bool} {P : Prop} [Decidable P] (h : ¬ P) : (a || decide P) = a := by rw [decide_eq_false h, Bool.or_false]
structure Gen (many : Int) (as ps : List Int) (hold : Int → Option Int) (ds : List Deed) : Prop where
  bnd : ∀ a ∈ as, 0 ≤ a ∧ a < many
  sub : ∀ x ∈ ps, x ∈ as
  live : ∃ t ∈ as, ¬ t ∈ ps
  sa : ∀ n, (stOf ds).awake n = decide (n ∈ as)
  sg : ∀ n, (stOf ds).gone n = decide (n ∈ ps)
  sh : ∀ x, (stOf ds).hold x = hold x
  fa : Fault many ds none
theorem Gen.start {many : Int} (h : 1 ≤ many) : Gen many [0] [] (fun _ => none) [] where
  bnd := fun a ha => by
    have : a = 0 := by simpa using ha
    subst this
    omega
  sub := fun x hx => by cases hx
  live := ⟨0, by simp, by simp⟩
  sa := fun n => by simp [stOf, pst0]
  sg := fun n => by simp [stOf, pst0]
  sh := fun _ => rfl
  fa := fun j d h => by simp at h
section
variable {many : Int} {as ps : List Int} {hold : Int → Option Int} {ds : List Deed} {t x : Int} {w : Str}
theorem Gen.thr (g : Gen many as ps hold ds) (ht : t ∈ as) (hp : ¬ t ∈ ps) : thF (stOf ds) t = none := by
  unfold thF
  rw [g.sa, g.sg]
  simp [ht, hp]
theorem form_ok (ht : 0 ≤ t ∧ t < many) (hw : w ∈ words) (hx : 0 ≤ x) (hf : w = W.fork ∨ w = W.wait → x < many) : form many (t, w, x) = none := by
  unfold form
  rw [if_neg (fun z => z ht), if_neg (fun z => z hw), if_neg]
  rintro (z | ⟨z1, z2⟩)
  · exact absurd hx (by show ¬ (0 ≤ x); have : x < 0 := z; omega)
  · have := hf z1
    have : many ≤ x := z2
    omega
theorem Gen.step (g : Gen many as ps hold ds) (ht : t ∈ as) (hp : ¬ t ∈ ps) (hw : w ∈ words) (hx : 0 ≤ x) (hf : w = W.fork ∨ w = W.wait → x < many) (ho : woF (stOf ds) (t, w, x) = none) : Fault many (ds ++ [(t, w, x)]) none := by
  refine g.fa.snoc ?_
  unfold faultOf stF
  rw [form_ok (g.bnd t ht) hw hx hf, g.thr ht hp, ho]
  rfl
theorem Gen.fork (g : Gen many as ps hold ds) (ht : t ∈ as) (hp : ¬ t ∈ ps) (hx : 0 ≤ x) (hm : x < many) (hn : ¬ x ∈ as) : Gen many (as ++ [x]) ps hold (ds ++ [(t, W.fork, x)]) where
  bnd := fun a ha => by
    rcases List.mem_append.mp ha with q | q
    · exact g.bnd a q
    · have : a = x := by simpa using q
      subst this
      exact ⟨hx, hm⟩
  sub := fun y hy => List.mem_append_left _ (g.sub y hy)
  live := ⟨t, List.mem_append_left _ ht, hp⟩
  sa := fun n => by
    rw [stOf_snoc]
    show ((stOf ds).awake n || decide (W.fork = W.fork ∧ n = x)) = _
    rw [g.sa, ← Bool.decide_or]
    exact decide_eq_decide.mpr (by simp)
  sg := fun n => by
    rw [stOf_snoc]
    show ((stOf ds).gone n || decide (W.fork = W.wait ∧ n = x)) = _
    rw [orF (fun z => nFW z.1), g.sg]
  sh := fun n => by
    rw [stOf_snoc]
    show (if n = x ∧ W.fork = W.take then some t else if n = x ∧ W.fork = W.give then none else (stOf ds).hold n) = _
    rw [if_neg (fun z => nTF z.2.symm), if_neg (fun z => nGF z.2.symm), g.sh]
  fa := g.step ht hp (mem_words (by simp)) hx (fun _ => hm) (by
    unfold woF
    rw [if_neg (fun z => nTF z.1.symm), if_neg (fun z => nGF z.1.symm), if_neg (fun z => by
      have z2 : (stOf ds).awake x = true := z.2
      rw [g.sa] at z2
      exact hn (of_decide_eq_true z2)), if_neg (fun z => nFW z.1), if_neg (fun z => nFW z.1)])
theorem Gen.wait (g : Gen many as ps hold ds) (ht : t ∈ as) (hp : ¬ t ∈ ps) (hx : x ∈ as) (hn : x ≠ t) : Gen many as (ps ++ [x]) hold (ds ++ [(t, W.wait, x)]) where
  bnd := g.bnd
  sub := fun y hy => by
    rcases List.mem_append.mp hy with q | q
    · exact g.sub y q
    · have : y = x := by simpa using q
      subst this
      exact hx
  live := ⟨t, ht, fun z => by
    rcases List.mem_append.mp z with q | q
    · exact hp q
    · exact hn (by simpa using q : t = x).symm⟩
  sa := fun n => by
    rw [stOf_snoc]
    show ((stOf ds).awake n || decide (W.wait = W.fork ∧ n = x)) = _
    rw [orF (fun z => nFW z.1.symm), g.sa]
  sg := fun n => by
    rw [stOf_snoc]
    show ((stOf ds).gone n || decide (W.wait = W.wait ∧ n = x)) = _
    rw [g.sg, ← Bool.decide_or]
    exact decide_eq_decide.mpr (by simp)
  sh := fun n => by
    rw [stOf_snoc]
    show (if n = x ∧ W.wait = W.take then some t else if n = x ∧ W.wait = W.give then none else (stOf ds).hold n) = _
    rw [if_neg (fun z => nTW z.2.symm), if_neg (fun z => nGW z.2.symm), g.sh]
  fa := g.step ht hp (mem_words (by simp)) (g.bnd x hx).1 (fun _ => (g.bnd x hx).2) (by
    unfold woF
    rw [if_neg (fun z => nTW z.1.symm), if_neg (fun z => nGW z.1.symm), if_neg (fun z => nFW z.1.symm), if_neg (fun z => by
      have z2 : (stOf ds).awake x = false := z.2
      rw [g.sa] at z2
      exact (of_decide_eq_false z2) hx), if_neg (fun z => hn z.2)])
theorem Gen.take (g : Gen many as ps hold ds) (ht : t ∈ as) (hp : ¬ t ∈ ps) (hx : 0 ≤ x) (hn : hold x = none) : Gen many as ps (fun n => if n = x then some t else hold n) (ds ++ [(t, W.take, x)]) where
  bnd := g.bnd
  sub := g.sub
  live := g.live
  sa := fun n => by
    rw [stOf_snoc]
    show ((stOf ds).awake n || decide (W.take = W.fork ∧ n = x)) = _
    rw [orF (fun z => nTF z.1), g.sa]
  sg := fun n => by
    rw [stOf_snoc]
    show ((stOf ds).gone n || decide (W.take = W.wait ∧ n = x)) = _
    rw [orF (fun z => nTW z.1), g.sg]
  sh := fun n => by
    rw [stOf_snoc]
    show (if n = x ∧ W.take = W.take then some t else if n = x ∧ W.take = W.give then none else (stOf ds).hold n) = _
    by_cases e : n = x
    · rw [if_pos ⟨e, rfl⟩, if_pos e]
    · rw [if_neg (fun z => e z.1), if_neg (fun z => e z.1), if_neg e, g.sh]
  fa := g.step ht hp (mem_words (by simp)) hx (fun z => z.elim (fun q => absurd q nTF) fun q => absurd q nTW) (by
    unfold woF
    rw [if_neg (fun z => by
      have z2 : ((stOf ds).hold x).isSome = true := z.2
      rw [g.sh, hn] at z2
      cases z2), if_neg (fun z => nTG z.1), if_neg (fun z => nTF z.1), if_neg (fun z => nTW z.1), if_neg (fun z => nTW z.1)])
theorem Gen.give (g : Gen many as ps hold ds) (ht : t ∈ as) (hp : ¬ t ∈ ps) (hx : 0 ≤ x) (hn : hold x = some t) : Gen many as ps (fun n => if n = x then none else hold n) (ds ++ [(t, W.give, x)]) where
  bnd := g.bnd
  sub := g.sub
  live := g.live
  sa := fun n => by
    rw [stOf_snoc]
    show ((stOf ds).awake n || decide (W.give = W.fork ∧ n = x)) = _
    rw [orF (fun z => nGF z.1), g.sa]
  sg := fun n => by
    rw [stOf_snoc]
    show ((stOf ds).gone n || decide (W.give = W.wait ∧ n = x)) = _
    rw [orF (fun z => nGW z.1), g.sg]
  sh := fun n => by
    rw [stOf_snoc]
    show (if n = x ∧ W.give = W.take then some t else if n = x ∧ W.give = W.give then none else (stOf ds).hold n) = _
    by_cases e : n = x
    · rw [if_neg (fun z => nTG z.2.symm), if_pos ⟨e, rfl⟩, if_pos e]
    · rw [if_neg (fun z => e z.1), if_neg (fun z => e z.1), if_neg e, g.sh]
  fa := g.step ht hp (mem_words (by simp)) hx (fun z => z.elim (fun q => absurd q nGF) fun q => absurd q nGW) (by
    unfold woF
    rw [if_neg (fun z => nTG z.1.symm), if_neg (fun z => z.2 (by
      show (stOf ds).hold x = some t
      rw [g.sh, hn])), if_neg (fun z => nGF z.1), if_neg (fun z => nGW z.1), if_neg (fun z => nGW z.1)])
theorem Gen.rw (g : Gen many as ps hold ds) (ht : t ∈ as) (hp : ¬ t ∈ ps) (hx : 0 ≤ x) (hw : w = W.read ∨ w = W.write) : Gen many as ps hold (ds ++ [(t, w, x)]) := by
  have h1 : w ≠ W.take := by rcases hw with rfl | rfl; exact nRT; exact nWT
  have h2 : w ≠ W.give := by rcases hw with rfl | rfl; exact nRG; exact nWG
  have h3 : w ≠ W.fork := by rcases hw with rfl | rfl; exact nRF; exact nWF
  have h4 : w ≠ W.wait := by rcases hw with rfl | rfl; exact nRW; exact nWW
  refine ⟨g.bnd, g.sub, g.live, fun n => ?_, fun n => ?_, fun n => ?_, ?_⟩
  · rw [stOf_snoc]
    show ((stOf ds).awake n || decide (w = W.fork ∧ n = x)) = _
    rw [orF (fun z => h3 z.1), g.sa]
  · rw [stOf_snoc]
    show ((stOf ds).gone n || decide (w = W.wait ∧ n = x)) = _
    rw [orF (fun z => h4 z.1), g.sg]
  · rw [stOf_snoc]
    show (if n = x ∧ w = W.take then some t else if n = x ∧ w = W.give then none else (stOf ds).hold n) = _
    rw [if_neg (fun z => h1 z.2), if_neg (fun z => h2 z.2), g.sh]
  · refine g.step ht hp (mem_words (by rcases hw with h | h; exact .inl h; exact .inr (.inl h))) hx (fun z => z.elim (fun q => absurd q h3) fun q => absurd q h4) ?_
    unfold woF
    rw [if_neg (fun z => h1 z.1), if_neg (fun z => h2 z.1), if_neg (fun z => h3 z.1), if_neg (fun z => h4 z.1), if_neg (fun z => h4 z.1)]
end
end RC
namespace RC
open PySem L2
def oV : Option Str → V
  | none => .non
  | some s => .str s
def deedOf (H : Hp) (v : V) : Deed := match v with
  | .ref r => match H r with
    | some (.tup [.int t, .str w, .int x]) => (t, w, x)
    | _ => (0, "", 0)
  | _ => (0, "", 0)
def IsDeed (H : Hp) (v : V) : Prop := ∃ r t w x, v = .ref r ∧ H r = some (.tup [.int t, .str w, .int x])
theorem deedOf_ref {H : Hp} {r : Addr} {t x : Int} {w : Str} (h : H r = some (.tup [.int t, .str w, .int x])) : deedOf H (.ref r) = (t, w, x) := by
  unfold deedOf
  dsimp only
  rw [h]
theorem IsDeed.same {H H' : Hp} {v : V} (s : Same H H') (h : IsDeed H v) : IsDeed H' v ∧ deedOf H' v = deedOf H v := by
  obtain ⟨r, t, w, x, rfl, e⟩ := h
  exact ⟨⟨r, t, w, x, rfl, s _ _ e⟩, by rw [deedOf_ref e, deedOf_ref (s _ _ e)]⟩
structure Deeds (H : Hp) (xs : List V) (ds : List Deed) : Prop where
  all : ∀ v ∈ xs, IsDeed H v
  eq : xs.map (deedOf H) = ds
theorem Deeds.same {H H' : Hp} {xs : List V} {ds : List Deed} (s : Same H H') (h : Deeds H xs ds) : Deeds H' xs ds := by
  refine ⟨fun v hv => (IsDeed.same s (h.all v hv)).1, ?_⟩
  rw [← h.eq]
  exact List.map_congr_left fun v hv => (IsDeed.same s (h.all v hv)).2
theorem Deeds.nil {H : Hp} : Deeds H [] [] := ⟨fun v hv => (by cases hv), rfl⟩
theorem Deeds.snoc {H : Hp} {xs : List V} {ds : List Deed} {v : V} {d : Deed} (h : Deeds H xs ds) (hv : IsDeed H v) (e : deedOf H v = d) : Deeds H (xs ++ [v]) (ds ++ [d]) := by
  refine ⟨fun u hu => ?_, by rw [List.map_append, h.eq, ← e]; rfl⟩
  rcases List.mem_append.mp hu with q | q
  · exact h.all u q
  · have : u = v := by simpa using q
    subst this
    exact hv
theorem Deeds.len {H : Hp} {xs : List V} {ds : List Deed} (h : Deeds H xs ds) : xs.length = ds.length := by rw [← h.eq, List.length_map]
theorem Deeds.get {H : Hp} {xs : List V} {ds : List Deed} {i : Nat} {v : V} (h : Deeds H xs ds) (e : xs[i]? = some v) : ∃ r t w x, v = .ref r ∧ H r = some (.tup [.int t, .str w, .int x]) ∧ ds[i]? = some (t, w, x) := by
  obtain ⟨r, t, w, x, rfl, hr⟩ := h.all v (List.mem_of_getElem? e)
  refine ⟨r, t, w, x, rfl, hr, ?_⟩
  rw [← h.eq, List.getElem?_map, e]
  show some (deedOf H (.ref r)) = _
  rw [deedOf_ref hr]
theorem Deeds.at {H : Hp} {xs : List V} {ds : List Deed} {i : Nat} {d : Deed} (h : Deeds H xs ds) (e : ds[i]? = some d) : ∃ r, xs[i]? = some (.ref r) ∧ H r = some (.tup [.int d.1, .str d.2.1, .int d.2.2]) := by
  have hi : i < xs.length := by rw [h.len]; exact (List.getElem?_eq_some_iff.mp e).1
  obtain ⟨r, t, w, x, e1, e2, e3⟩ := h.get (i := i) (v := xs[i]) (by simp [hi])
  rw [e] at e3
  cases e3
  exact ⟨r, by rw [← e1]; simp [hi], e2⟩
theorem Deeds.append {H : Hp} {xs ys : List V} {ds es : List Deed} (h : Deeds H xs ds) (k : Deeds H ys es) : Deeds H (xs ++ ys) (ds ++ es) :=
  ⟨fun v hv => (List.mem_append.mp hv).elim (h.all v) (k.all v), by rw [List.map_append, h.eq, k.eq]⟩
def Told (H : Hp) (v : V) : Option (Nat × Str) → Prop
  | none => v = .non
  | some (i, w) => ∃ p, v = .ref p ∧ H p = some (.tup [.int (i : Int), .str w])
theorem valV_drop {κ : Type} [DecidableEq κ] (k j : κ) : ∀ kvs : List (κ × V), valV (dropK kvs k) j = if j = k then none else valV kvs j
  | [] => by
    show valV [] j = _
    rw [valV_nil]
    split <;> rfl
  | p :: r => by
    have ih := valV_drop k j r
    by_cases h : p.1 = k
    · rw [dropK_pos h, ih]
      by_cases e : j = k
      · rw [if_pos e, if_pos e]
      · rw [if_neg e, if_neg e, valV_neg (fun z => e (z.symm.trans h))]
    · rw [dropK_neg h]
      by_cases e : p.1 = j
      · rw [valV_pos e, valV_pos e, if_neg (fun z => h (e.trans z))]
      · rw [valV_neg e, valV_neg e, ih]
theorem inl_inj {a b : Int} : ((Sum.inl a : Key) = Sum.inl b) ↔ a = b := ⟨fun h => Sum.inl.inj h, fun h => by rw [h]⟩
end RC
namespace L2
open PySem
def PuT (tt : TT) (σ : St) (H : Hp) (b : Bool) : Prop := ∀ Qt : Bool → Hp → Prop, Qt b H → tt σ H Qt
section
variable {tt tA tB' : TT} {σ : St} {H : Hp} {a b : Bool} {D : Ends} {v : V} {rest : TS}
theorem PuT.and (h1 : PuT tA σ H a) (h2 : a = true → PuT tB' σ H b) : PuT (tAnd tA tB') σ H (a && b) := fun Qt q => h1 _ (by
  cases a with
  | true => exact iteT (h2 rfl _ q)
  | false => exact iteF q)
theorem PuT.or (h1 : PuT tA σ H a) (h2 : a = false → PuT tB' σ H b) : PuT (tOr tA tB') σ H (a || b) := fun Qt q => h1 _ (by
  cases a with
  | true => exact iteT q
  | false => exact iteF (h2 rfl _ q))
theorem PuT.not (h1 : PuT tA σ H a) : PuT (tNot tA) σ H (!a) := fun Qt q => h1 _ q
theorem PuT.iff (h : PuT tt σ H a) {c : Prop} [Decidable c] (e : a = true ↔ c) : PuT tt σ H (decide c) := by
  have : a = decide c := by rw [Bool.eq_iff_iff, decide_eq_true_iff]; exact e
  exact this ▸ h
theorem PuT.ret {c : Prop} [Decidable c] (h : PuT tt σ H (decide c)) (h1 : c → D.rt v H) (h2 : ¬ c → rest D σ H) : tSeq (tIfS tt (tRet (tC v)) tNext) rest D σ H := h _ (by
  by_cases z : c
  · rw [decide_eq_true z]; exact iteT (h1 z)
  · rw [decide_eq_false z]; exact iteF (h2 z))
theorem PuT.ifs {c : Prop} [Decidable c] {body : TS} (h : PuT tt σ H (decide c)) (h1 : c → body { D with nx := rest D } σ H) (h2 : ¬ c → rest D σ H) : tSeq (tIfS tt body tNext) rest D σ H := h _ (by
  by_cases z : c
  · rw [decide_eq_true z]; exact iteT (h1 z)
  · rw [decide_eq_false z]; exact iteF (h2 z))
theorem PuT.if1 {c : Prop} [Decidable c] {body els : TS} (h : PuT tt σ H (decide c)) (h1 : c → body D σ H) (h2 : ¬ c → els D σ H) : tIfS tt body els D σ H := h _ (by
  by_cases z : c
  · rw [decide_eq_true z]; exact iteT (h1 z)
  · rw [decide_eq_false z]; exact iteF (h2 z))
theorem dec_str' {x y : Str} : decide (V.str x = V.str y) = decide (x = y) := by rw [Bool.eq_iff_iff]; simp
theorem dec_int' {x y : Int} : decide (V.int x = V.int y) = decide (x = y) := by rw [Bool.eq_iff_iff]; simp
end
end L2
namespace K
open PySem L2 RC
def top (i : Nat) : Stmt := PySem.Challenge.pw_racewise_k13_whole_first_race_sees_alike.main.body.getD i (.Pass ⟨0, 0, 0, 0⟩)
abbrev sJoin : Stmt := top 1
abbrev sClk : Stmt := top 2
abbrev s_reaches : Stmt := top 3
abbrev sForm : Stmt := top 15
abbrev sInit : Stmt := inClass (top 16) 0
abbrev sTh : Stmt := inClass (top 16) 1
abbrev sWo : Stmt := inClass (top 16) 2
abbrev sFol : Stmt := inClass (top 16) 3
abbrev sOf : Stmt := top 17
abbrev sFault : Stmt := top 18
abbrev sRow : Stmt := inClass (top 19) 0
abbrev sDeed : Stmt := inClass (top 19) 1
abbrev sRDs : Stmt := inClass (top 19) 2
abbrev s_touches : Stmt := top 20
abbrev s_at_odds : Stmt := top 21
abbrev s_pairs_at_odds : Stmt := top 22
abbrev s_races : Stmt := top 24
abbrev s_beside : Stmt := top 25
abbrev s_seen : Stmt := top 26
abbrev s_first_race : Stmt := top 27
abbrev s_is_weaving : Stmt := top 29
abbrev s_woven : Stmt := top 30
abbrev sCell : Stmt := top 32
abbrev sNum : Stmt := top 33
abbrev sLock : Stmt := top 34
abbrev sDeeds : Stmt := top 35
abbrev s__law_last : Stmt := top 36
abbrev s__law_first : Stmt := top 37
abbrev s__law_alike : Stmt := top 38
abbrev sLaw : Stmt := top 39
end K
namespace L2
open PySem
def PuS (tt : TT) (σ : St) (H : Hp) (b : Bool) : Prop := ∀ Qt : Bool → Hp → Prop, (∀ H', Same H H' → Qt b H') → tt σ H Qt
section
variable {tt tA tB' : TT} {σ : St} {H : Hp} {a b : Bool} {D : Ends} {v : V} {rest : TS}
theorem PuT.pus (h : PuT tt σ H b) : PuS tt σ H b := fun Qt q => h Qt (q H (Same.refl H))
theorem PuS.and (h1 : PuS tA σ H a) (h2 : a = true → ∀ H', Same H H' → PuS tB' σ H' b) : PuS (tAnd tA tB') σ H (a && b) := fun Qt q => h1 _ fun H' s => (by
  cases a with
  | true => exact iteT (h2 rfl H' s _ fun H'' s' => q H'' (s.trans s'))
  | false => exact iteF (q H' s))
theorem PuS.or (h1 : PuS tA σ H a) (h2 : a = false → ∀ H', Same H H' → PuS tB' σ H' b) : PuS (tOr tA tB') σ H (a || b) := fun Qt q => h1 _ fun H' s => (by
  cases a with
  | true => exact iteT (q H' s)
  | false => exact iteF (h2 rfl H' s _ fun H'' s' => q H'' (s.trans s')))
theorem PuS.not (h1 : PuS tA σ H a) : PuS (tNot tA) σ H (!a) := fun Qt q => h1 _ q
theorem PuS.iff (h : PuS tt σ H a) {c : Prop} [Decidable c] (e : a = true ↔ c) : PuS tt σ H (decide c) := by
  have : a = decide c := by rw [Bool.eq_iff_iff, decide_eq_true_iff]; exact e
  exact this ▸ h
theorem PuS.ifs {c : Prop} [Decidable c] {body : TS} (h : PuS tt σ H (decide c)) (h1 : ∀ H', Same H H' → c → body { D with nx := rest D } σ H') (h2 : ∀ H', Same H H' → ¬ c → rest D σ H') : tSeq (tIfS tt body tNext) rest D σ H := h _ fun H' s => (by
  by_cases z : c
  · rw [decide_eq_true z]; exact iteT (h1 H' s z)
  · rw [decide_eq_false z]; exact iteF (h2 H' s z))
theorem PuS.if1 {c : Prop} [Decidable c] {body els : TS} (h : PuS tt σ H (decide c)) (h1 : ∀ H', Same H H' → c → body D σ H') (h2 : ∀ H', Same H H' → ¬ c → els D σ H') : tIfS tt body els D σ H := h _ fun H' s => (by
  by_cases z : c
  · rw [decide_eq_true z]; exact iteT (h1 H' s z)
  · rw [decide_eq_false z]; exact iteF (h2 H' s z))
end
theorem tComp_list {K : PySem.W.Frag} {fr : List Nat} {tl te : TE} {tt : TT} {σ : St} {H : Hp} {Q : VK} {a : Addr} {xs : List V} (p : V → Bool) (f : V → V) (h : ∀ Q' : VK, Q' (.ref a) H → tl σ H Q') (hq : SqL K H a xs) (hz : xs.length < sizeLine)
    (ht : ∀ D, H D = none → ∀ x ys (Qt : Bool → Hp → Prop), x ∈ xs → Qt (p x) (upd H D (.lst ys)) → tt (some x :: fr.map fun i => (σ[i]?).join) (upd H D (.lst ys)) Qt)
    (he : ∀ D, H D = none → ∀ x ys (Qe : VK), x ∈ xs → p x = true → Qe (f x) (upd H D (.lst ys)) → te (some x :: fr.map fun i => (σ[i]?).join) (upd H D (.lst ys)) Qe)
    (fin : ∀ D, H D = none → Q (.ref D) (upd H D (.lst ((xs.filter p).map f)))) : tComp 1 fr (iList K tl) (gName 0) tt te σ H Q :=
  h _ ⟨a, rfl, ⟨xs, hq⟩, fun D hD => comp_list p f hD hq hz (ht D hD) (he D hD) (fin D hD)⟩
theorem setComp_list {K : PySem.W.Frag} {fr : List Nat} {tl te : TE} {tt : TT} {σ : St} {H : Hp} {a : Addr} {xs : List V} {j : Nat} {rest : TS} {D : Ends} (p : V → Bool) (f : V → V) (h : ∀ Q' : VK, Q' (.ref a) H → tl σ H Q') (hq : SqL K H a xs) (hz : xs.length < sizeLine)
    (ht : ∀ D, H D = none → ∀ x ys (Qt : Bool → Hp → Prop), x ∈ xs → Qt (p x) (upd H D (.lst ys)) → tt (some x :: fr.map fun i => (σ[i]?).join) (upd H D (.lst ys)) Qt)
    (he : ∀ D, H D = none → ∀ x ys (Qe : VK), x ∈ xs → p x = true → Qe (f x) (upd H D (.lst ys)) → te (some x :: fr.map fun i => (σ[i]?).join) (upd H D (.lst ys)) Qe)
    (fin : ∀ D', H D' = none → rest D (σ.set j (some (.ref D'))) (upd H D' (.lst ((xs.filter p).map f)))) : tSeq (tAsg (tComp 1 fr (iList K tl) (gName 0) tt te) (gName j)) rest D σ H := by
  show tComp 1 fr (iList K tl) (gName 0) tt te σ H fun x H1 => rest D (σ.set j (some x)) H1
  exact tComp_list (Q := fun x H1 => rest D (σ.set j (some x)) H1) p f h hq hz ht he fin
theorem Same.put {H0 H : Hp} {a : Addr} {o : HO} (s : Same H0 H) (h : H0 a = none) : Same H0 (upd H a o) := fun b u e => by rw [upd_ne (ne_of_none e h)]; exact s b u e
theorem CompScope.of {X : Cx} {N : List Str} {nt : Nat} {fr : List Nat} {scope osc : Scope} {XN : List Str} (eN : X.N = XN) (eO : X.env.scope = osc) (k : scope.kind = .function) (c : ∀ y ∈ scope.names, y.2 ≠ .cell) (n : ∀ y ∈ scope.names, y.2 = .local → scope.names.lookup y.1 = some .local)
    (f : ∀ y ∈ scope.names, y.2 = .free → osc.names.lookup y.1 = some .cell) (l : N.length = nt + fr.length) (t : tieOk XN N scope.names nt fr = true) : CompScope X N nt fr scope :=
  ⟨k, c, n, fun y hy e => by show X.env.scope.names.lookup y.1 = _; rw [eO]; exact f y hy e, l, by rw [eN]; exact t⟩
end L2
namespace RC
open PySem L2
def TSame (H H' : Hp) : Prop := ∀ b ys, H b = some (.tup ys) → H' b = some (.tup ys)
theorem Deeds.tsame {H H' : Hp} {xs : List V} {ds : List Deed} (s : TSame H H') (h : Deeds H xs ds) : Deeds H' xs ds := by
  have key : ∀ v ∈ xs, IsDeed H' v ∧ deedOf H' v = deedOf H v := fun v hv => by
    obtain ⟨r, t, w, x, rfl, e⟩ := h.all v hv
    exact ⟨⟨r, t, w, x, rfl, s _ _ e⟩, by rw [deedOf_ref e, deedOf_ref (s _ _ e)]⟩
  refine ⟨fun v hv => (key v hv).1, ?_⟩
  rw [← h.eq]
  exact List.map_congr_left fun v hv => (key v hv).2
theorem inV_ints (a : Int) : ∀ ps : List Int, inV (.int a) (ps.map V.int) = decide (a ∈ ps)
  | [] => by
    rw [decide_eq_false (by intro z; cases z)]
    rfl
  | v :: r => by
    have ih := inV_ints a r
    unfold inV at ih ⊢
    rw [List.map_cons, List.any_cons, ih]
    show ((v == a) || decide (a ∈ r)) = _
    rw [Bool.eq_iff_iff]
    simp only [Bool.or_eq_true, beq_iff_eq, decide_eq_true_eq, List.mem_cons]
    constructor
    · rintro (z | z)
      · exact .inl z.symm
      · exact .inr z
    · rintro (z | z)
      · exact .inl z.symm
      · exact .inr z
theorem filt_ints {as : List Int} {p : V → Bool} {q : Int → Bool} (h : ∀ a, p (V.int a) = q a) : ((as.map V.int).filter p).map (fun v => v) = (as.filter q).map V.int := by
  rw [List.map_id', List.filter_map]
  congr 1
  exact List.filter_congr fun a _ => h a
theorem ints_flat (ns : List Int) : (ns.map V.int).all flatV = true := by
  rw [List.all_map, List.all_eq_true]
  intro x _
  rfl
theorem datas_ints {K : PySem.W.Frag} {H : Hp} : ∀ ns : List Int, DatAs K H (ns.map V.int) (ns.map PyData.int)
  | [] => .nil
  | n :: r => .cons (.int n) (datas_ints r)
theorem lay_ints : ∀ ns : List Int, PyData.canLayAll0 (ns.map PyData.int) = true
  | [] => by simp [PyData.canLayAll0]
  | n :: r => by
    rw [List.map_cons, PyData.canLayAll0, lay_ints r]
    simp [PyData.canLay0]
theorem depth_ints : ∀ ns : List Int, PyData.depthAll (ns.map PyData.int) = 0
  | [] => by simp [PyData.depthAll]
  | n :: r => by
    rw [List.map_cons, PyData.depthAll, depth_ints r]
    simp [PyData.depth]
theorem shaped_ints (ns : List Int) : PySem.SeqAt.shaped (.list (ns.map PyData.int)) = true := by
  unfold PySem.SeqAt.shaped
  rw [PyData.canLay0, lay_ints, PyData.depth, depth_ints]
  rfl
theorem eqv_nil (ds : List PyData) : PyData.eqv (.list ds) (.list []) = ds.isEmpty := by
  rw [PyData.eqv]
  cases ds with
  | nil => simp [PyData.eqvAll]
  | cons d r => simp [PyData.eqvAll]
theorem pus_neNil {K : PySem.W.Frag} {σ : St} {H : Hp} {k : Nat} {a : Addr} {ns : List Int} (e : σ[k]? = some (some (.ref a))) (h : SqL K H a (ns.map V.int)) : PuS (tTest (tOp (rEqD K true) (tVar k) (tLst tNil))) σ H (decide (ns ≠ [])) := fun Qt q =>
  ⟨_, e, Nat.zero_le _, fun p hp => ⟨_, _, .lst ((same_new hp).seq h) (datas_ints ns), .lst (SqL.of upd_same) (datas_ints []), shaped_ints ns, shaped_ints [], _, rfl, by
    have z : (if true = true then !PyData.eqv (.list (ns.map PyData.int)) (.list (([] : List Int).map PyData.int)) else PyData.eqv (.list (ns.map PyData.int)) (.list (([] : List Int).map PyData.int))) = decide (ns ≠ []) := by
      rw [if_pos rfl, List.map_nil, eqv_nil]
      cases ns with
      | nil => rfl
      | cons n r => rfl
    rw [z]
    exact q _ (same_new hp)⟩⟩
end RC
namespace K
open PySem L2 RC
structure Txt (K : PySem.W.Frag) (mg : Str → Option Value) (C aW aT : Addr) : Prop where
  cl : Cls K C
  nA : NoAttr K C "awake"
  nG : NoAttr K C "gone"
  nH : NoAttr K C "holders"
  mgC : mg "Past" = some (.ref C)
  mgW : mg "WORDS" = some (.ref aW)
  mgT : mg "WORDS_OF_THREADS" = some (.ref aT)
  tW : ∀ H : Hp, SqT K H aW [.str "read", .str "write", .str "take", .str "give", .str "fork", .str "wait"]
  tT : ∀ H : Hp, SqT K H aT [.str "fork", .str "wait"]
  len : mg "len" = none
  enu : mg "enumerate" = none
  rng : mg "range" = none
  isi : mg "isinstance" = none
  int : mg "int" = none
  bool : mg "bool" = none
  str : mg "str" = none
  tup : mg "tuple" = none
  lst : mg "list" = none
section
variable {P : Program} {w : World} {K : PySem.W.Frag} {mg : Str → Option Value} {base : Heap}
theorem inV_strs (w : Str) : ∀ ws : List Str, inV (.str w) (ws.map V.str) = decide (w ∈ ws)
  | [] => by
    rw [decide_eq_false (by intro z; cases z)]
    rfl
  | v :: r => by
    have ih := inV_strs w r
    unfold inV at ih ⊢
    rw [List.map_cons, List.any_cons, ih]
    show ((v == w) || decide (w ∈ r)) = _
    rw [Bool.eq_iff_iff]
    simp only [Bool.or_eq_true, beq_iff_eq, decide_eq_true_eq, List.mem_cons]
    constructor
    · rintro (z | z)
      · exact .inl z.symm
      · exact .inr z
    · rintro (z | z)
      · exact .inl z.symm
      · exact .inr z
theorem inV_words (w : Str) : inV (.str w) [.str "read", .str "write", .str "take", .str "give", .str "fork", .str "wait"] = decide (w ∈ words) := inV_strs w words
theorem inV_fw (w : Str) : inV (.str w) [.str "fork", .str "wait"] = decide (w = W.fork ∨ w = W.wait) := by
  refine (inV_strs w [W.fork, W.wait]).trans (decide_eq_decide.mpr ?_)
  rw [List.mem_cons, List.mem_singleton]
def spForm : Sp := fun vs H Q _ => ∃ m t w x, vs = [.int m, .int t, .str w, .int x] ∧ Q (oV (form m (t, w, x))) H
theorem scForm : FnScope ["many", "thread", "word", "thing"] ["many", "thread", "word", "thing"] (defScope sForm) := ⟨rfl, rfl, rfl, by decide +kernel, rfl, by decide +kernel, by decide +kernel⟩
theorem ok_form {f C aW aT : Addr} {fd : FuncData} (F : Fun K "fault_of_form" "fault_of_form" sForm f fd) (T : Txt K mg C aW aT) : FnOk P w K mg base CX0 1 f fd ["many", "thread", "word", "thing"] spForm := by
  refine F.ok scForm (fun vs H Q E h => ?_) (fun cdv A outer s H vs Q E hr h => ?_)
  · obtain ⟨m, t, w, x, rfl, _⟩ := h
    rfl
  · obtain ⟨m, t, w, x, rfl, k⟩ := h
    refine ⟨_, pss_cons (ps_if (pt_not (pt_chain op_le op_lt pe_int (pv 1) (pv 0))) (pss_one (ps_ret pe_str)) pss_nil)
      (pss_cons (ps_if (pt_cmpR op_notIn_seq (pv 2) (pe_glob rfl T.mgW (v := .ref aW) rfl) (by with_unfolding_all rfl)) (pss_one (ps_ret pe_str)) pss_nil)
      (pss_cons (ps_if (PW.pt (pw_or (pt_cmpR op_lt (pv 3) pe_int (nomark _)) (pw_or1 (PW.pt (pw_and (pt_cmpR op_in_seq (pv 2) (pe_glob rfl T.mgT (v := .ref aT) rfl) (by with_unfolding_all rfl)) (pw_and1 (pt_cmpR op_ge (pv 3) (pv 0) (nomark _)))))))) (pss_one (ps_ret pe_str)) pss_nil)
      (pss_one (ps_ret pe_non)))), ?_⟩
    unfold form at k
    dsimp only at k
    -- the rest, once the thread is good
    have go2 : 0 ≤ t ∧ t < m → Q (oV (if ¬ w ∈ words then some "word" else if x < 0 ∨ ((w = W.fork ∨ w = W.wait) ∧ m ≤ x) then some "thing" else none)) H := fun ht => by
      rw [if_neg (fun z => z ht)] at k
      exact k
    have bad : ¬ (0 ≤ t ∧ t < m) → Q (.str "thread") H := fun ht => by
      rw [if_pos ht] at k
      exact k
    clear k
    refine ⟨_, rfl, _, _, rfl, rfl, _, rfl, ?_⟩
    refine ite2 (fun h1 => ?_) (fun h1 => ?_)
    · have h1 : 0 ≤ t := of_decide_eq_true h1
      refine ⟨_, rfl, _, _, rfl, rfl, _, rfl, ?_⟩
      by_cases h2 : t < m
      · refine iteNS h2 ?_
        have k := go2 ⟨h1, h2⟩
        refine ⟨_, rfl, _, _, rfl, .inr (T.tW H), rfl, rfl, _, rfl, ?_⟩
        show if (!inV (.str w) _) = true then _ else _
        rw [inV_words]
        by_cases h3 : w ∈ words
        · refine iteNS h3 ?_
          rw [if_neg (fun z => z h3)] at k
          refine ⟨_, rfl, _, _, rfl, rfl, _, rfl, ?_⟩
          refine ite2 (fun h4 => ?_) (fun h4 => ?_)
          · have h4 : x < 0 := of_decide_eq_true h4
            rw [if_pos (.inl h4)] at k
            exact iteT k
          · have h4 : ¬ x < 0 := fun z => h4 (decide_eq_true z)
            refine ⟨_, rfl, _, _, rfl, .inr (T.tT H), rfl, rfl, _, rfl, ?_⟩
            show if (inV (.str w) _) = true then _ else _
            rw [inV_fw]
            refine ite2 (fun h5 => ?_) (fun h5 => ?_)
            · have h5 := of_decide_eq_true h5
              refine ⟨_, rfl, _, rfl, _, _, rfl, rfl, _, rfl, ?_⟩
              refine ite2 (fun h6 => ?_) (fun h6 => ?_)
              · rw [if_pos (.inr ⟨h5, of_decide_eq_true h6⟩)] at k
                exact k
              · rw [if_neg (fun z => z.elim h4 fun z => h6 (decide_eq_true z.2))] at k
                exact k
            · rw [if_neg (fun z => z.elim h4 fun z => h5 (decide_eq_true z.1))] at k
              exact iteF k
        · rw [if_pos h3] at k
          rw [decide_eq_false h3]
          exact iteT k
      · rw [decide_eq_false h2]
        exact iteT (bad fun z => h2 z.2)
    · refine ⟨_, rfl, ?_⟩
      exact iteT (bad fun z => h1 (decide_eq_true z.1))
end
end K
namespace K
open PySem L2 RC
theorem n_ag : ¬ (("awake" : Str) = "gone") := by decide +kernel
theorem n_ah : ¬ (("awake" : Str) = "holders") := by decide +kernel
theorem n_gh : ¬ (("gone" : Str) = "holders") := by decide +kernel
def flds (a g h : Addr) : List (Str × V) := putF "holders" (.ref h) (putF "gone" (.ref g) (putF "awake" (.ref a) []))
theorem flds_a (a g h : Addr) : (flds a g h).lookup ("awake" : Str) = some (.ref a) := by
  unfold flds
  rw [lookup_putF, if_neg n_ah, lookup_putF, if_neg n_ag, lookup_putF, if_pos rfl]
theorem flds_g (a g h : Addr) : (flds a g h).lookup ("gone" : Str) = some (.ref g) := by
  unfold flds
  rw [lookup_putF, if_neg n_gh, lookup_putF, if_pos rfl]
theorem flds_h (a g h : Addr) : (flds a g h).lookup ("holders" : Str) = some (.ref h) := by
  unfold flds
  rw [lookup_putF, if_pos rfl]
theorem flds_no (a g h : Addr) {m : Str} (h1 : ¬ m = "holders") (h2 : ¬ m = "gone") (h3 : ¬ m = "awake") : (flds a g h).lookup m = none := by
  unfold flds
  rw [lookup_putF, if_neg h1, lookup_putF, if_neg h2, lookup_putF, if_neg h3]
  all_goals rfl
structure PastAt (C : Addr) (H : Hp) (p a g h : Addr) (st : Pst) (n : Nat) : Prop where
  ob : ∃ dx, H p = some (.ins C dx (flds a g h))
  da : ∃ kA : List (Key × V), H a = some (.dK kA) ∧ kA.length ≤ n + 1 ∧ ∀ k : Int, (valV kA (Sum.inl k)).isSome = st.awake k
  dg : ∃ kG : List (Key × V), H g = some (.dK kG) ∧ kG.length ≤ n ∧ ∀ k : Int, (valV kG (Sum.inl k)).isSome = st.gone k
  dh : ∃ kH : List (Key × V), H h = some (.dK kH) ∧ kH.length ≤ n ∧ ∀ k : Int, valV kH (Sum.inl k) = (st.hold k).map V.int
  ag : a ≠ g
  ah : a ≠ h
  gh : g ≠ h
theorem PastAt.keep {C : Addr} {H H' : Hp} {p a g h : Addr} {st : Pst} {n : Nat} (S : PastAt C H p a g h st n) (s : Same H H') : PastAt C H' p a g h st n := by
  obtain ⟨⟨dx, e⟩, ⟨kA, eA, lA, vA⟩, ⟨kG, eG, lG, vG⟩, ⟨kH, eH, lH, vH⟩, n1, n2, n3⟩ := S
  exact ⟨⟨dx, s _ _ e⟩, ⟨kA, s _ _ eA, lA, vA⟩, ⟨kG, s _ _ eG, lG, vG⟩, ⟨kH, s _ _ eH, lH, vH⟩, n1, n2, n3⟩
def spInit (C : Addr) : Sp := fun vs H Q _ => ∃ (p dx : Addr), vs = [.ref p] ∧ H p = some (.ins C dx []) ∧ ∀ (a g h : Addr) (H' : Hp), H a = none → H g = none → H h = none → PastAt C H' p a g h pst0 0 → (∀ b o, H b = some o → b ≠ p → H' b = some o) → Q .non H'
def spTh (C : Addr) : Sp := fun vs H Q _ => ∃ (p a g h : Addr) (st : Pst) (n : Nat) (t : Int), vs = [.ref p, .int t] ∧ PastAt C H p a g h st n ∧ Q (oV (thF st t)) H
def spWo (C : Addr) : Sp := fun vs H Q _ => ∃ (p a g h : Addr) (st : Pst) (n : Nat) (t : Int) (w : Str) (x : Int), vs = [.ref p, .int t, .str w, .int x] ∧ PastAt C H p a g h st n ∧ Q (oV (woF st (t, w, x))) H
def spFol (C : Addr) : Sp := fun vs H Q _ => ∃ (p a g h : Addr) (st : Pst) (n : Nat) (t : Int) (w : Str) (x : Int), vs = [.ref p, .int t, .str w, .int x] ∧ PastAt C H p a g h st n ∧ n ≤ 200 ∧ (w = W.give → st.hold x ≠ none) ∧
  ∀ H', PastAt C H' p a g h (follow st (t, w, x)) (n + 1) → (∀ b o, H b = some o → b ≠ a → b ≠ g → b ≠ h → H' b = some o) → Q .non H'
section
variable {P : Program} {w : World} {K : PySem.W.Frag} {mg : Str → Option Value} {base : Heap}
theorem scInit : FnScope ["self"] ["self"] (defScope sInit) := ⟨rfl, rfl, rfl, by decide +kernel, rfl, by decide +kernel, by decide +kernel⟩
theorem ok_init {f C aW aT : Addr} {fd : FuncData} (F : Fun K "__init__" "Past.__init__" sInit f fd) (T : Txt K mg C aW aT) : FnOk P w K mg base CX0 1 f fd ["self"] (spInit C) := by
  refine F.ok scInit (fun vs H Q E h => ?_) (fun cdv A outer s H vs Q E hr h => ?_)
  · obtain ⟨p, dx, rfl, _⟩ := h
    rfl
  · obtain ⟨p, dx, rfl, hp, k⟩ := h
    refine ⟨_, pss_cons (ps_fld (pv 0) (pe_disp (pps_cons pe_int pe_bl pps_nil) rfl rfl (List.cons_ne_nil _ _) (by decide)) rfl) (pss_cons (ps_fld (pv 0) pe_dnewK rfl) (pss_one (ps_fld (pv 0) pe_dnewK rfl))), ?_⟩
    intro a ha
    have npa : p ≠ a := ne_of_none hp ha
    refine ⟨upd_same, [(Sum.inl 0, .bl true)], rfl, by decide, ?_⟩
    refine ⟨_, rfl, p, C, dx, [], rfl, (by rw [upd_ne npa, upd_ne npa]; exact hp), T.cl, T.nA, (by show 0 < 1000; decide), ?_⟩
    intro g hg
    have hg0 : H g = none := by
      by_cases e1 : g = p
      · rw [e1, upd_same] at hg; cases hg
      · rw [upd_ne e1] at hg
        by_cases e2 : g = a
        · rw [e2, upd_same] at hg; cases hg
        · rw [upd_ne e2, upd_ne e2] at hg; exact hg
    have nga : g ≠ a := fun e => by
      rw [e, upd_ne npa.symm, upd_same] at hg; cases hg
    have npg : p ≠ g := ne_of_none hp hg0
    refine ⟨_, rfl, p, C, dx, _, rfl, (by rw [upd_ne npg, upd_same]), T.cl, T.nG, (by show 1 < 1000; decide), ?_⟩
    intro h hh
    have hh0 : H h = none := by
      by_cases e1 : h = p
      · rw [e1, upd_same] at hh; cases hh
      · rw [upd_ne e1] at hh
        by_cases e2 : h = g
        · rw [e2, upd_same] at hh; cases hh
        · rw [upd_ne e2, upd_ne e1] at hh
          by_cases e3 : h = a
          · rw [e3, upd_same] at hh; cases hh
          · rw [upd_ne e3, upd_ne e3] at hh; exact hh
    have nhg : h ≠ g := fun e => by
      rw [e, upd_ne npg.symm, upd_same] at hh; cases hh
    have nha : h ≠ a := fun e => by
      rw [e, upd_ne npa.symm, upd_ne nga.symm, upd_ne npa.symm, upd_same] at hh; cases hh
    have nph : p ≠ h := ne_of_none hp hh0
    refine ⟨_, rfl, p, C, dx, _, rfl, (by rw [upd_ne nph, upd_same]), T.cl, T.nH, (by show 2 < 1000; decide), ?_⟩
    refine k a g h _ ha hg0 hh0 ⟨⟨dx, upd_same⟩, ⟨[(Sum.inl 0, .bl true)], ?_, by decide, fun n => ?_⟩, ⟨[], ?_, by decide, fun n => rfl⟩, ⟨[], ?_, by decide, fun n => rfl⟩, nga.symm, nha.symm, nhg.symm⟩ fun b o e hb => ?_
    · rw [upd_ne npa.symm, upd_ne nha.symm, upd_ne npa.symm, upd_ne nga.symm, upd_ne npa.symm, upd_same]
      rfl
    · show (valV [((Sum.inl 0 : Key), V.bl true)] (Sum.inl n)).isSome = decide (n = 0)
      by_cases e : n = 0
      · subst e
        rfl
      · rw [valV_neg (fun z => e (inl_inj.mp z).symm), valV_nil, decide_eq_false e]
        rfl
    · rw [upd_ne npg.symm, upd_ne nhg.symm, upd_ne npg.symm, upd_same]
    · rw [upd_ne nph.symm, upd_same]
    · rw [upd_ne hb, upd_ne (ne_of_none e hh0), upd_ne hb, upd_ne (ne_of_none e hg0), upd_ne hb, upd_ne (ne_of_none e ha), upd_ne (ne_of_none e ha)]
      exact e
theorem scTh : FnScope ["self", "thread"] ["self", "thread"] (defScope sTh) := ⟨rfl, rfl, rfl, by decide +kernel, rfl, by decide +kernel, by decide +kernel⟩
theorem ok_th {f C aW aT : Addr} {fd : FuncData} (F : Fun K "fault_of_thread" "Past.fault_of_thread" sTh f fd) (T : Txt K mg C aW aT) : FnOk P w K mg base CX0 1 f fd ["self", "thread"] (spTh C) := by
  refine F.ok scTh (fun vs H Q E h => ?_) (fun cdv A outer s H vs Q E hr h => ?_)
  · obtain ⟨p, a, g, h, st, n, t, rfl, _⟩ := h
    rfl
  · obtain ⟨p, a, g, h, st, n, t, rfl, S, k⟩ := h
    have hu := hu_of hr
    obtain ⟨⟨dx, ob⟩, ⟨kA, eA, lA, vA⟩, ⟨kG, eG, lG, vG⟩, _⟩ := S
    refine ⟨_, pss_cons (ps_if (pt_cmp (pc_dnotin hu (pv 1) (pe_fld (pv 0) rfl))) (pss_one (ps_ret pe_str)) pss_nil)
      (pss_cons (ps_if (pt_cmp (pc_din hu (pv 1) (pe_fld (pv 0) rfl))) (pss_one (ps_ret pe_str)) pss_nil)
      (pss_one (ps_ret pe_non))), ?_⟩
    unfold thF at k
    refine ⟨_, rfl, _, rfl, p, C, dx, _, _, rfl, ob, T.cl, T.nA, flds_a _ _ _, a, _, rfl, DGet.k (k := Sum.inl t) eA, _, rfl, ?_⟩
    rw [vA t]
    cases e : st.awake t with
    | false =>
      rw [if_pos e] at k
      exact iteT k
    | true =>
      rw [if_neg (by rw [e]; decide)] at k
      refine iteF ?_
      refine ⟨_, rfl, _, rfl, p, C, dx, _, _, rfl, ob, T.cl, T.nG, flds_g _ _ _, g, _, rfl, DGet.k (k := Sum.inl t) eG, _, rfl, ?_⟩
      rw [vG t]
      cases e2 : st.gone t with
      | false =>
        rw [if_neg (by rw [e2]; decide)] at k
        exact iteF k
      | true =>
        rw [if_pos e2] at k
        exact iteT k
theorem scWo : FnScope ["self", "thread", "word", "thing"] ["self", "thread", "word", "thing"] (defScope sWo) := ⟨rfl, rfl, rfl, by decide +kernel, rfl, by decide +kernel, by decide +kernel⟩
theorem ok_wo {f C aW aT : Addr} {fd : FuncData} (F : Fun K "fault_of_word" "Past.fault_of_word" sWo f fd) (T : Txt K mg C aW aT) : FnOk P w K mg base CX0 1 f fd ["self", "thread", "word", "thing"] (spWo C) := by
  refine F.ok scWo (fun vs H Q E h => ?_) (fun cdv A outer s H vs Q E hr h => ?_)
  · obtain ⟨p, a, g, h, st, n, t, w, x, rfl, _⟩ := h
    rfl
  · obtain ⟨p, a, g, h, st, n, t, w, x, rfl, S, k⟩ := h
    have hu := hu_of hr
    obtain ⟨⟨dx, ob⟩, ⟨kA, eA, lA, vA⟩, ⟨kG, eG, lG, vG⟩, ⟨kH, eH, lH, vH⟩, _⟩ := S
    refine ⟨_, pss_cons (ps_if (PW.pt (pw_and (pt_cmpR op_eq (pv 2) pe_str (nomark _)) (pw_and1 (pt_cmp (pc_din hu (pv 3) (pe_fld (pv 0) rfl)))))) (pss_one (ps_ret pe_str)) pss_nil)
      (pss_cons (ps_if (PW.pt (pw_and (pt_cmpR op_eq (pv 2) pe_str (nomark _)) (pw_and1 (pt_cmpR op_ne (pe_dget1 hu (pe_fld (pv 0) rfl) (pv 3) ⟨rfl, rfl, rfl, rfl⟩) (pv 1) (nomark _))))) (pss_one (ps_ret pe_str)) pss_nil)
      (pss_cons (ps_if (PW.pt (pw_and (pt_cmpR op_eq (pv 2) pe_str (nomark _)) (pw_and1 (pt_cmp (pc_din hu (pv 3) (pe_fld (pv 0) rfl)))))) (pss_one (ps_ret pe_str)) pss_nil)
      (pss_cons (ps_if (PW.pt (pw_and (pt_cmpR op_eq (pv 2) pe_str (nomark _)) (pw_and1 (pt_cmp (pc_dnotin hu (pv 3) (pe_fld (pv 0) rfl)))))) (pss_one (ps_ret pe_str)) pss_nil)
      (pss_cons (ps_if (PW.pt (pw_and (pt_cmpR op_eq (pv 2) pe_str (nomark _)) (pw_and1 (pt_cmpR op_eq (pv 3) (pv 1) (nomark _))))) (pss_one (ps_ret pe_str)) pss_nil)
      (pss_one (ps_ret pe_non)))))), ?_⟩
    unfold woF at k
    dsimp only at k
    have hne : (!decide (((valV kH (Sum.inl x)).getD V.non) = V.int t)) = decide (st.hold x ≠ some t) := by
      rw [vH x, Bool.eq_iff_iff, decide_eq_true_iff]
      cases st.hold x with
      | none => simp
      | some i => simp
    have hsc : scal ((valV kH (Sum.inl x)).getD V.non) (V.int t) = true := by
      rw [vH x]
      cases st.hold x <;> rfl
    have wd : ∀ (l : Str) (Qt : Bool → Hp → Prop), Qt (decide (w = l)) H → Qt (decide (V.str w = V.str l)) H := fun l Qt q => by rw [dec_str']; exact q
    refine PuT.ret (c := w = W.take ∧ (st.hold x).isSome = true) ((PuT.and (a := decide (w = W.take)) (b := (st.hold x).isSome) (fun Qt q => ⟨_, rfl, rfl, _, rfl, wd _ Qt q⟩)
      (fun _ Qt q => ⟨_, rfl, _, rfl, p, C, dx, _, _, rfl, ob, T.cl, T.nH, flds_h _ _ _, h, _, rfl, DGet.k (k := Sum.inl x) eH, _, rfl, by rw [vH x, Option.isSome_map]; exact q⟩)).iff (by simp)) (fun c1 => ?_) (fun c1 => ?_)
    · rw [if_pos c1] at k
      exact k
    rw [if_neg c1] at k
    refine PuT.ret (c := w = W.give ∧ st.hold x ≠ some t) ((PuT.and (a := decide (w = W.give)) (b := decide (st.hold x ≠ some t)) (fun Qt q => ⟨_, rfl, rfl, _, rfl, wd _ Qt q⟩)
      (fun _ Qt q => ⟨_, rfl, p, C, dx, _, _, rfl, ob, T.cl, T.nH, flds_h _ _ _, h, rfl, .inl ⟨kH, .inl eH⟩, _, rfl, _, DGet.k (k := Sum.inl x) eH, _, rfl, hsc, _, rfl, by rw [hne]; exact q⟩)).iff (by simp)) (fun c2 => ?_) (fun c2 => ?_)
    · rw [if_pos c2] at k
      exact k
    rw [if_neg c2] at k
    refine PuT.ret (c := w = W.fork ∧ st.awake x = true) ((PuT.and (a := decide (w = W.fork)) (b := st.awake x) (fun Qt q => ⟨_, rfl, rfl, _, rfl, wd _ Qt q⟩)
      (fun _ Qt q => ⟨_, rfl, _, rfl, p, C, dx, _, _, rfl, ob, T.cl, T.nA, flds_a _ _ _, a, _, rfl, DGet.k (k := Sum.inl x) eA, _, rfl, by rw [vA x]; exact q⟩)).iff (by simp)) (fun c3 => ?_) (fun c3 => ?_)
    · rw [if_pos c3] at k
      exact k
    rw [if_neg c3] at k
    refine PuT.ret (c := w = W.wait ∧ st.awake x = false) ((PuT.and (a := decide (w = W.wait)) (b := !st.awake x) (fun Qt q => ⟨_, rfl, rfl, _, rfl, wd _ Qt q⟩)
      (fun _ Qt q => ⟨_, rfl, _, rfl, p, C, dx, _, _, rfl, ob, T.cl, T.nA, flds_a _ _ _, a, _, rfl, DGet.k (k := Sum.inl x) eA, _, rfl, by rw [vA x]; exact q⟩)).iff (by simp)) (fun c4 => ?_) (fun c4 => ?_)
    · rw [if_pos c4] at k
      exact k
    rw [if_neg c4] at k
    refine PuT.ret (c := w = W.wait ∧ x = t) ((PuT.and (a := decide (w = W.wait)) (b := decide (x = t)) (fun Qt q => ⟨_, rfl, rfl, _, rfl, wd _ Qt q⟩)
      (fun _ Qt q => ⟨_, rfl, _, rfl, rfl, _, rfl, by rw [dec_int']; exact q⟩)).iff (by simp)) (fun c5 => ?_) (fun c5 => ?_)
    · rw [if_pos c5] at k
      exact k
    rw [if_neg c5] at k
    exact k
theorem scFol : FnScope ["self", "thread", "word", "thing"] ["self", "thread", "word", "thing"] (defScope sFol) := ⟨rfl, rfl, rfl, by decide +kernel, rfl, by decide +kernel, by decide +kernel⟩
theorem ok_fol {f C aW aT : Addr} {fd : FuncData} (F : Fun K "follow" "Past.follow" sFol f fd) (T : Txt K mg C aW aT) : FnOk P w K mg base CX0 1 f fd ["self", "thread", "word", "thing"] (spFol C) := by
  refine F.ok scFol (fun vs H Q E h => ?_) (fun cdv A outer s H vs Q E hr h => ?_)
  · obtain ⟨p, a, g, h, st, n, t, w, x, rfl, _⟩ := h
    rfl
  · obtain ⟨p, a, g, h, st, n, t, w, x, rfl, S, hn, hgive, k⟩ := h
    have hu := hu_of hr
    obtain ⟨⟨dx, ob⟩, ⟨kA, eA, lA, vA⟩, ⟨kG, eG, lG, vG⟩, ⟨kH, eH, lH, vH⟩, ag, ah, gh⟩ := id S
    have npa : p ≠ a := ne_of ob eA (by intro z; cases z)
    have npg : p ≠ g := ne_of ob eG (by intro z; cases z)
    have nph : p ≠ h := ne_of ob eH (by intro z; cases z)
    refine ⟨_, pss_cons (ps_if (pt_cmpR op_eq (pv 2) pe_str (nomark _)) (pss_one (ps_dput hu (pe_fld (pv 0) rfl) (pv 3) (pv 1) rfl)) pss_nil)
      (pss_cons (ps_if (pt_cmpR op_eq (pv 2) pe_str (nomark _)) (pss_one (ps_expr (pe_dpop1 (pe_fld (pv 0) rfl) (pv 3) ⟨rfl, rfl, rfl, rfl⟩))) pss_nil)
      (pss_cons (ps_if (pt_cmpR op_eq (pv 2) pe_str (nomark _)) (pss_one (ps_dput hu (pe_fld (pv 0) rfl) (pv 3) pe_bl rfl)) pss_nil)
      (pss_one (ps_if (pt_cmpR op_eq (pv 2) pe_str (nomark _)) (pss_one (ps_dput hu (pe_fld (pv 0) rfl) (pv 3) pe_bl rfl)) pss_nil)))), ?_⟩
    have wd : ∀ (l : Str) (H : Hp) (Qt : Bool → Hp → Prop), Qt (decide (w = l)) H → Qt (decide (V.str w = V.str l)) H := fun l H Qt q => by rw [dec_str']; exact q
    -- what follow makes of the state
    have fa : ∀ n, w ≠ W.fork → (follow st (t, w, x)).awake n = st.awake n := fun n z => orF fun q => z q.1
    have fg : ∀ n, w ≠ W.wait → (follow st (t, w, x)).gone n = st.gone n := fun n z => orF fun q => z q.1
    have fh : ∀ n, w ≠ W.take → w ≠ W.give → (follow st (t, w, x)).hold n = st.hold n := fun n z1 z2 => by
      show (if n = x ∧ w = W.take then some t else if n = x ∧ w = W.give then none else st.hold n) = _
      rw [if_neg (fun q => z1 q.2), if_neg (fun q => z2 q.2)]
    have dA : w ≠ W.fork → ∃ kA : List (Key × V), H a = some (.dK kA) ∧ kA.length ≤ n + 1 + 1 ∧ ∀ k : Int, (valV kA (Sum.inl k)).isSome = (follow st (t, w, x)).awake k := fun z => ⟨kA, eA, by omega, fun n => by rw [fa n z]; exact vA n⟩
    have dG : w ≠ W.wait → ∃ kG : List (Key × V), H g = some (.dK kG) ∧ kG.length ≤ n + 1 ∧ ∀ k : Int, (valV kG (Sum.inl k)).isSome = (follow st (t, w, x)).gone k := fun z => ⟨kG, eG, by omega, fun n => by rw [fg n z]; exact vG n⟩
    have dH : w ≠ W.take → w ≠ W.give → ∃ kH : List (Key × V), H h = some (.dK kH) ∧ kH.length ≤ n + 1 ∧ ∀ k : Int, valV kH (Sum.inl k) = ((follow st (t, w, x)).hold k).map V.int := fun z1 z2 => ⟨kH, eH, by omega, fun n => by rw [fh n z1 z2]; exact vH n⟩
    refine PuT.ifs (c := w = W.take) (fun Qt q => ⟨_, rfl, rfl, _, rfl, wd _ _ Qt q⟩) (fun c1 => ?_) (fun c1 => ?_)
    · refine ⟨_, rfl, _, rfl, p, C, dx, _, _, rfl, ob, T.cl, T.nH, flds_h _ _ _, _, rfl, h, _, rfl, DPut.k (k := Sum.inl x) eH (small1000 (by omega)), ?_⟩
      dsimp only
      refine PuT.ifs (c := w = W.give) (fun Qt q => ⟨_, rfl, rfl, _, rfl, wd _ _ Qt q⟩) (fun c2 => absurd (c1.symm.trans c2) nTG) (fun c2 => ?_)
      refine PuT.ifs (c := w = W.fork) (fun Qt q => ⟨_, rfl, rfl, _, rfl, wd _ _ Qt q⟩) (fun c3 => absurd (c1.symm.trans c3) nTF) (fun c3 => ?_)
      refine PuT.if1 (c := w = W.wait) (fun Qt q => ⟨_, rfl, rfl, _, rfl, wd _ _ Qt q⟩) (fun c4 => absurd (c1.symm.trans c4) nTW) (fun c4 => ?_)
      refine k _ ⟨⟨dx, by rw [upd_ne nph]; exact ob⟩, ?_, ?_, ⟨_, upd_same, ?_, fun m => ?_⟩, ag, ah, gh⟩ (fun b o e h1 h2 h3 => by rw [upd_ne h3]; exact e)
      · rw [upd_ne ah]; exact dA c3
      · rw [upd_ne gh]; exact dG c4
      · have := length_putK kH (Sum.inl x : Key) (V.int t); omega
      · rw [valV_put]
        show _ = ((if m = x ∧ w = W.take then some t else if m = x ∧ w = W.give then none else st.hold m)).map V.int
        by_cases e : m = x
        · rw [if_pos (inl_inj.mpr e), if_pos ⟨e, c1⟩]; rfl
        · rw [if_neg (fun z => e (inl_inj.mp z)), if_neg (fun z => e z.1), if_neg (fun z => e z.1)]; exact vH m
    refine PuT.ifs (c := w = W.give) (fun Qt q => ⟨_, rfl, rfl, _, rfl, wd _ _ Qt q⟩) (fun c2 => ?_) (fun c2 => ?_)
    · obtain ⟨i, hi⟩ := Option.ne_none_iff_exists'.mp (hgive c2)
      refine ⟨_, rfl, p, C, dx, _, _, rfl, ob, T.cl, T.nH, flds_h _ _ _, h, rfl, .inl ⟨kH, .inl eH⟩, _, rfl, kH, Sum.inl x, V.int i, eH, rfl, (by rw [vH x, hi]; rfl), ?_⟩
      dsimp only
      refine PuT.ifs (c := w = W.fork) (fun Qt q => ⟨_, rfl, rfl, _, rfl, wd _ _ Qt q⟩) (fun c3 => absurd (c2.symm.trans c3) nGF) (fun c3 => ?_)
      refine PuT.if1 (c := w = W.wait) (fun Qt q => ⟨_, rfl, rfl, _, rfl, wd _ _ Qt q⟩) (fun c4 => absurd (c2.symm.trans c4) nGW) (fun c4 => ?_)
      refine k _ ⟨⟨dx, by rw [upd_ne nph]; exact ob⟩, ?_, ?_, ⟨_, upd_same, ?_, fun m => ?_⟩, ag, ah, gh⟩ (fun b o e h1 h2 h3 => by rw [upd_ne h3]; exact e)
      · rw [upd_ne ah]; exact dA c3
      · rw [upd_ne gh]; exact dG c4
      · have : (dropK kH (Sum.inl x : Key)).length ≤ kH.length := List.length_filter_le _ _
        omega
      · rw [valV_drop]
        show _ = ((if m = x ∧ w = W.take then some t else if m = x ∧ w = W.give then none else st.hold m)).map V.int
        by_cases e : m = x
        · rw [if_pos (inl_inj.mpr e), if_neg (fun z => c1 z.2), if_pos ⟨e, c2⟩]; rfl
        · rw [if_neg (fun z => e (inl_inj.mp z)), if_neg (fun z => e z.1), if_neg (fun z => e z.1)]; exact vH m
    refine PuT.ifs (c := w = W.fork) (fun Qt q => ⟨_, rfl, rfl, _, rfl, wd _ _ Qt q⟩) (fun c3 => ?_) (fun c3 => ?_)
    · refine ⟨_, rfl, p, C, dx, _, _, rfl, ob, T.cl, T.nA, flds_a _ _ _, _, rfl, a, _, rfl, DPut.k (k := Sum.inl x) eA (small1000 (by omega)), ?_⟩
      dsimp only
      refine PuT.if1 (c := w = W.wait) (fun Qt q => ⟨_, rfl, rfl, _, rfl, wd _ _ Qt q⟩) (fun c4 => absurd (c3.symm.trans c4) nFW) (fun c4 => ?_)
      refine k _ ⟨⟨dx, by rw [upd_ne npa]; exact ob⟩, ⟨_, upd_same, ?_, fun m => ?_⟩, ?_, ?_, ag, ah, gh⟩ (fun b o e h1 h2 h3 => by rw [upd_ne h1]; exact e)
      · have := length_putK kA (Sum.inl x : Key) (V.bl true); omega
      · rw [valV_put]
        show _ = (st.awake m || decide (w = W.fork ∧ m = x))
        by_cases e : m = x
        · rw [if_pos (inl_inj.mpr e), decide_eq_true ⟨c3, e⟩, Bool.or_true]; rfl
        · rw [if_neg (fun z => e (inl_inj.mp z)), orF (fun z => e z.2)]; exact vA m
      · rw [upd_ne ag.symm]; exact dG c4
      · rw [upd_ne ah.symm]; exact dH c1 c2
    refine PuT.if1 (c := w = W.wait) (fun Qt q => ⟨_, rfl, rfl, _, rfl, wd _ _ Qt q⟩) (fun c4 => ?_) (fun c4 => ?_)
    · refine ⟨_, rfl, p, C, dx, _, _, rfl, ob, T.cl, T.nG, flds_g _ _ _, _, rfl, g, _, rfl, DPut.k (k := Sum.inl x) eG (small1000 (by omega)), ?_⟩
      refine k _ ⟨⟨dx, by rw [upd_ne npg]; exact ob⟩, ?_, ⟨_, upd_same, ?_, fun m => ?_⟩, ?_, ag, ah, gh⟩ (fun b o e h1 h2 h3 => by rw [upd_ne h2]; exact e)
      · rw [upd_ne ag]; exact dA c3
      · have := length_putK kG (Sum.inl x : Key) (V.bl true); omega
      · rw [valV_put]
        show _ = (st.gone m || decide (w = W.wait ∧ m = x))
        by_cases e : m = x
        · rw [if_pos (inl_inj.mpr e), decide_eq_true ⟨c4, e⟩, Bool.or_true]; rfl
        · rw [if_neg (fun z => e (inl_inj.mp z)), orF (fun z => e z.2)]; exact vG m
      · rw [upd_ne gh.symm]; exact dH c1 c2
    · exact k _ ⟨⟨dx, ob⟩, dA c3, dG c4, dH c1 c2, ag, ah, gh⟩ (fun b o e _ _ _ => e)
end
end K
namespace K
open PySem L2 RC
def spOf (C : Addr) : Sp := fun vs H Q _ => ∃ (m : Int) (p a g h : Addr) (st : Pst) (n : Nat) (t : Int) (w : Str) (x : Int), vs = [.int m, .ref p, .int t, .str w, .int x] ∧ PastAt C H p a g h st n ∧ Q (oV (faultOf m st (t, w, x))) H
def spFault (K : PySem.W.Frag) : Sp := fun vs H Q _ => ∃ (m : Int) (l : Addr) (xs : List V) (ds : List Deed), vs = [.int m, .ref l] ∧ SqL K H l xs ∧ Deeds H xs ds ∧ ds.length ≤ 100 ∧
  ∀ (r : Option (Nat × Str)) (v : V) (H' : Hp), Fault m ds r → Same H H' → Told H' v r → Q v H'
theorem oV_none {o : Option Str} : decide (oV o = V.non) = decide (o = none) := by
  cases o with
  | none => rfl
  | some s => rfl
theorem oV_some {o : Option Str} : (!decide (oV o = V.non)) = decide (o ≠ none) := by
  cases o with
  | none => rfl
  | some s => rfl
structure Cal (K : PySem.W.Frag) (mg : Str → Option Value) (x : Str) (f : Addr) (fd : FuncData) (ps : List Str) : Prop where
  mgf : mg x = some (.ref f)
  kp : PySem.W.keepIn K (.ref f) = true
  b : Binds K fd ps []
section
variable {P : Program} {w : World} {K : PySem.W.Frag} {mg : Str → Option Value} {base : Heap}
theorem scOf : FnScope ["many", "past", "thread", "word", "thing", "found"] ["many", "past", "thread", "word", "thing"] (defScope sOf) := ⟨rfl, rfl, rfl, by decide +kernel, rfl, by decide +kernel, by decide +kernel⟩
theorem ok_of {f C aW aT f1 f2 f3 : Addr} {fd fd1 fd2 fd3 : FuncData} (F : Fun K "fault_of_deed" "fault_of_deed" sOf f fd) (T : Txt K mg C aW aT)
    (F1 : Fun K "fault_of_form" "fault_of_form" sForm f1 fd1) (c1 : Cal K mg "fault_of_form" f1 fd1 ["many", "thread", "word", "thing"])
    (F2 : Fun K "fault_of_thread" "Past.fault_of_thread" sTh f2 fd2) (b2 : Binds K fd2 ["self", "thread"] []) (m2 : Meth K C "fault_of_thread" f2)
    (F3 : Fun K "fault_of_word" "Past.fault_of_word" sWo f3 fd3) (b3 : Binds K fd3 ["self", "thread", "word", "thing"] []) (m3 : Meth K C "fault_of_word" f3) :
    FnOk P w K mg base CX0 2 f fd ["many", "past", "thread", "word", "thing"] (spOf C) := by
  have G1 : FnOk P w K mg base CX0 1 f1 fd1 ["many", "thread", "word", "thing"] spForm := ok_form F1 T
  have G2 : FnOk P w K mg base CX0 1 f2 fd2 ["self", "thread"] (spTh C) := ok_th F2 T
  have G3 : FnOk P w K mg base CX0 1 f3 fd3 ["self", "thread", "word", "thing"] (spWo C) := ok_wo F3 T
  refine F.ok scOf (fun vs H Q E h => ?_) (fun cdv A outer s H vs Q E hr h => ?_)
  · obtain ⟨m, p, a, g, h, st, n, t, w, x, rfl, _⟩ := h
    rfl
  · obtain ⟨m, p, a, g, h, st, n, t, w, x, rfl, S, k⟩ := h
    obtain ⟨⟨dx, ob⟩, _⟩ := id S
    refine ⟨_, pss_cons (ps_set (i := 5) scOf.nd rfl (Or.inl rfl) (pe_call G1 hr rfl c1.mgf c1.kp c1.b .nil pass0 (pa_cons (pv 0) (pa_cons (pv 2) (pa_cons (pv 3) (pa_cons (pv 4) pa_nil))))))
      (pss_cons (ps_if (pt_cmpR op_isN (pv 5) pe_non (nomark _)) (pss_one (ps_set (i := 5) scOf.nd rfl (Or.inl rfl) (pe_meth (pv 1) T.cl m2 G2 hr b2 .nil pass0 (pa_cons (pv 2) pa_nil)))) pss_nil)
      (pss_cons (ps_if (pt_cmpR op_isN (pv 5) pe_non (nomark _)) (pss_one (ps_set (i := 5) scOf.nd rfl (Or.inl rfl) (pe_meth (pv 1) T.cl m3 G3 hr b3 .nil pass0 (pa_cons (pv 2) (pa_cons (pv 3) (pa_cons (pv 4) pa_nil)))))) pss_nil)
      (pss_one (ps_ret (pv 5))))), ?_⟩
    unfold faultOf stF at k
    refine ⟨_, rfl, _, rfl, _, rfl, _, rfl, m, t, w, x, rfl, ?_⟩
    dsimp only [gName]
    refine PuT.ifs (c := form m (t, w, x) = none) (fun Qt q => ⟨_, rfl, rfl, _, rfl, by rw [oV_none]; exact q⟩) (fun z1 => ?_) (fun z1 => ?_)
    · refine ⟨_, rfl, p, dx, _, rfl, ob, flds_no _ _ _ (by decide +kernel) (by decide +kernel) (by decide +kernel), _, rfl, p, a, g, h, st, n, t, rfl, S, ?_⟩
      rw [z1, Option.none_or] at k
      dsimp only [gName]
      refine PuT.ifs (c := thF st t = none) (fun Qt q => ⟨_, rfl, rfl, _, rfl, by rw [oV_none]; exact q⟩) (fun z2 => ?_) (fun z2 => ?_)
      · refine ⟨_, rfl, p, dx, _, rfl, ob, flds_no _ _ _ (by decide +kernel) (by decide +kernel) (by decide +kernel), _, rfl, _, rfl, _, rfl, p, a, g, h, st, n, t, w, x, rfl, S, ?_⟩
        have z2' : thF st (t, w, x).1 = none := z2
        rw [z2', Option.none_or] at k
        exact ⟨_, rfl, k⟩
      · obtain ⟨q, hq⟩ := Option.ne_none_iff_exists'.mp z2
        have z2' : thF st (t, w, x).1 = some q := hq
        rw [z2', Option.some_or] at k
        refine ⟨_, rfl, ?_⟩
        rw [hq]
        exact k
    · obtain ⟨q, hq⟩ := Option.ne_none_iff_exists'.mp z1
      rw [hq, Option.some_or] at k
      refine PuT.ifs (c := False) (fun Qt q' => ⟨_, rfl, rfl, _, rfl, by rw [hq]; exact q'⟩) (fun z => z.elim) (fun _ => ?_)
      refine ⟨_, rfl, ?_⟩
      rw [hq]
      exact k
theorem scFault : FnScope ["many", "deeds", "past", "place", "thread", "word", "thing", "found"] ["many", "deeds"] (defScope sFault) := ⟨rfl, rfl, rfl, by decide +kernel, rfl, by decide +kernel, by decide +kernel⟩
theorem ok_fault {f C aW aT fI fO fF : Addr} {fd fdI fdO fdF : FuncData} (F : Fun K "fault" "fault" sFault f fd) (T : Txt K mg C aW aT)
    (GI : FnOk P w K mg base CX0 1 fI fdI ["self"] (spInit C)) (M : Mk K C fI) (bI : Binds K fdI ["self"] [])
    (GO : FnOk P w K mg base CX0 2 fO fdO ["many", "past", "thread", "word", "thing"] (spOf C)) (cO : Cal K mg "fault_of_deed" fO fdO ["many", "past", "thread", "word", "thing"])
    (GF : FnOk P w K mg base CX0 1 fF fdF ["self", "thread", "word", "thing"] (spFol C)) (bF : Binds K fdF ["self", "thread", "word", "thing"] []) (mF : Meth K C "follow" fF) :
    FnOk P w K mg base CX0 4 f fd ["many", "deeds"] (spFault K) := by
  refine F.ok scFault (fun vs H Q E h => ?_) (fun cdv A outer s H vs Q E hr h => ?_)
  · obtain ⟨m, l, xs, ds, rfl, _⟩ := h
    rfl
  · obtain ⟨m, l, xs, ds, rfl, hl, hds, hlen, k⟩ := h
    have hr1 : Room 1 _ := hr.mono (by decide)
    have hr2 : Room 2 _ := hr.mono (by decide)
    refine ⟨_, pss_cons (ps_set (i := 2) scFault.nd rfl (Or.inl rfl) (pe_make0 M GI hr2 rfl T.mgC bI .nil pass0))
      (pss_cons (ps_for PassesOwn.never rfl (pi_enum rfl T.enu (pa_cons (pv 1) pa_nil))
          (pg_tup rfl (pgs_cons (pg_name (i := 3) scFault.nd rfl (Or.inl rfl)) (pgs_cons (pg_tup rfl (pgs_cons (pg_name (i := 4) scFault.nd rfl (Or.inl rfl)) (pgs_cons (pg_name (i := 5) scFault.nd rfl (Or.inl rfl)) (pgs_cons (pg_name (i := 6) scFault.nd rfl (Or.inl rfl)) pgs_nil)))) pgs_nil)))
        (pss_cons (ps_set (i := 7) scFault.nd rfl (Or.inl rfl) (pe_call GO hr2 rfl cO.mgf cO.kp cO.b .nil pass0 (pa_cons (pv 0) (pa_cons (pv 2) (pa_cons (pv 4) (pa_cons (pv 5) (pa_cons (pv 6) pa_nil)))))))
        (pss_cons (ps_if (pt_cmpR op_notN (pv 7) pe_non (nomark _)) (pss_one (ps_ret (pe_tup (pa_cons (pv 3) (pa_cons (pv 7) pa_nil))))) pss_nil)
        (pss_one (ps_expr (pe_meth (pv 2) T.cl mF GF hr1 bF .nil pass0 (pa_cons (pv 4) (pa_cons (pv 5) (pa_cons (pv 6) pa_nil)))))))))
      (pss_one (ps_ret pe_non))), ?_⟩
    intro p dx np ndx nex
    refine ⟨p, dx, rfl, upd_same, fun a g h H1 na ng nh S1 kp => ⟨rfl, ?_⟩⟩
    have s0 : Same H (upd (upd H dx (.own p)) p (.ins C dx [])) := fun b o e => by
      rw [upd_ne (ne_of_none e np), upd_ne (ne_of_none e ndx)]
      exact e
    have s1 : Same H H1 := fun b o e => kp b o (s0 b o e) (ne_of_none e np)
    have na0 : H a = none := s0.free na
    have ng0 : H g = none := s0.free ng
    have nh0 : H h = none := s0.free nh
    dsimp only [gName]
    refine ⟨_, rfl, l, rfl, ⟨_, s1.seq hl⟩, for_enum (K := K) (a := l) (xs := xs) (fun i σ H2 => ∃ (v3 v4 v5 v6 v7 : Option V), σ = [some (.int m), some (.ref l), some (.ref p), v3, v4, v5, v6, v7] ∧ Same H H2 ∧ PastAt C H2 p a g h (stOf (ds.take i)) i ∧
        ∀ j d, j < i → ds[j]? = some d → faultOf m (stOf (ds.take j)) d = none)
      ⟨none, none, none, none, none, rfl, s1, S1, fun j d hj => absurd hj (Nat.not_lt_zero _)⟩ (fun i σ H2 _ ⟨_, _, _, _, _, _, s2, _⟩ => s2.seq hl) ?_ ?_⟩
    · rintro i y σ H2 tp hi ⟨v3, v4, v5, v6, v7, rfl, s2, S2, fr⟩ htp
      have hil : i < ds.length := by rw [← hds.len]; exact (List.getElem?_eq_some_iff.mp hi).1
      obtain ⟨r, t, w, x, rfl, er, ed⟩ := (hds.same s2).get hi
      have s3 : Same H2 (upd H2 tp (.tup [.int (i : Int), .ref r])) := same_new htp
      have S3 := S2.keep s3
      obtain ⟨⟨dy, ob⟩, _⟩ := id S3
      refine ⟨tp, _, rfl, SqT.of upd_same, rfl, _, _, rfl, _, _, rfl, ⟨r, _, rfl, SqT.of (s3 _ _ er), rfl, _, _, rfl, _, _, rfl, _, _, rfl, rfl, rfl, ?_⟩⟩
      refine ⟨_, rfl, _, rfl, _, rfl, _, rfl, _, rfl, m, p, a, g, h, _, _, t, w, x, rfl, S3, ?_⟩
      dsimp only [gName]
      refine PuT.ifs (c := faultOf m (stOf (ds.take i)) (t, w, x) ≠ none) (fun Qt q => ⟨_, rfl, rfl, _, rfl, by rw [oV_some]; exact q⟩) (fun z => ?_) (fun z => ?_)
      · obtain ⟨q, hq⟩ := Option.ne_none_iff_exists'.mp z
        refine ⟨_, rfl, _, rfl, (by show 2 ≤ sizeLine; decide), fun u hu => ?_⟩
        have s4 : Same H2 (upd (upd H2 tp (.tup [.int (i : Int), .ref r])) u (.tup [.int (i : Int), oV (faultOf m (stOf (ds.take i)) (t, w, x))])) := s3.trans (same_new hu)
        refine k (some (i, q)) _ _ ⟨⟨_, ed, hq⟩, fr⟩ (s2.trans s4) ⟨u, rfl, ?_⟩
        rw [upd_same, hq]
        rfl
      · have z : faultOf m (stOf (ds.take i)) (t, w, x) = none := Classical.byContradiction z
        refine ⟨_, rfl, p, dy, _, rfl, ob, flds_no _ _ _ (by decide +kernel) (by decide +kernel) (by decide +kernel), _, rfl, _, rfl, _, rfl, p, a, g, h, _, _, t, w, x, rfl, S3, by omega, fun hw hn => ?_, fun H4 S4 fr4 => ?_⟩
        · -- a give without a holder would have been a fault
          unfold faultOf stF at z
          rw [Option.or_eq_none_iff, Option.or_eq_none_iff] at z
          have z2 := z.2.2
          unfold woF at z2
          rw [if_neg (fun q => nTG (q.1.symm.trans hw)), if_pos ⟨hw, by rw [hn]; exact fun q => by cases q⟩] at z2
          cases z2
        · refine ⟨_, _, _, _, _, rfl, fun b o e => ?_, ?_, fun j d hj e => ?_⟩
          · exact fr4 b o (s3 b o (s2 b o e)) (ne_of_none e na0) (ne_of_none e ng0) (ne_of_none e nh0)
          · rw [take_snoc ed, stOf_snoc]
            exact S4
          · rcases Nat.lt_succ_iff_lt_or_eq.mp hj with q | q
            · exact fr j d q e
            · subst q
              rw [ed] at e
              cases e
              exact z
    · rintro σ H2 ⟨v3, v4, v5, v6, v7, rfl, s2, S2, fr⟩
      refine k none _ H2 (fun j d e => fr j d ?_ e) s2 rfl
      rw [hds.len]
      exact (List.getElem?_eq_some_iff.mp e).1
end
end K
namespace K
open PySem L2 RC
theorem bIsi : bootBuiltins "isinstance" = some (.builtin "isinstance") := by decide +kernel
theorem bTuple : bootBuiltins "tuple" = some (.type "tuple") := by decide +kernel
theorem bList : bootBuiltins "list" = some (.type "list") := by decide +kernel
def spCell (K : PySem.W.Frag) : Sp := fun vs H Q _ => ∃ (a : Addr) (k : Int) (ns : List Int), vs = [.ref a, .int k] ∧ SqL K H a (ns.map V.int) ∧ 0 ≤ k ∧ Q (.int (ns.getD k.toNat 0)) H
def spNum (K : PySem.W.Frag) : Sp := fun vs H Q _ => ∃ (c : Addr) (ns : List Int), vs = [.ref c] ∧ SqL K H c (ns.map V.int) ∧ ns.length ≤ 1000 ∧
  ∀ (r : Addr) (ms : List Int) (H' : Hp), Same H H' → H r = none → H' r = some (.lst (ms.map V.int)) → ms.length = ns.length → (∀ m ∈ ms, 0 ≤ m) → Q (.ref r) H'
def tupD (d : Deed) : HO := .tup [.int d.1, .str d.2.1, .int d.2.2]
section
variable {P : Program} {w : World} {K : PySem.W.Frag} {mg : Str → Option Value} {base : Heap}
theorem scCell : FnScope ["_law_script", "_law_k"] ["_law_script", "_law_k"] (defScope sCell) := ⟨rfl, rfl, rfl, by decide +kernel, rfl, by decide +kernel, by decide +kernel⟩
theorem ok_cell {f C aW aT : Addr} {fd : FuncData} (F : Fun K "_law_cell_at" "_law_cell_at" sCell f fd) (T : Txt K mg C aW aT) : FnOk P w K mg base CX0 1 f fd ["_law_script", "_law_k"] (spCell K) := by
  refine F.ok scCell (fun vs H Q E h => ?_) (fun cdv A outer s H vs Q E hr h => ?_)
  · obtain ⟨a, k, ns, rfl, _⟩ := h
    rfl
  · obtain ⟨a, k, ns, rfl, hS, h0, q⟩ := h
    refine ⟨_, pss_cons (ps_if (pt_cmpR op_lt (pv 1) (pe_callB call_len_seq (by rfl) T.len PySem.boot_len (pa_cons (pv 0) pa_nil)) (nomark _)) (pss_one (ps_ret (pe_ix ix_list (pv 0) (pv 1) (fun _ _ => rfl)))) pss_nil) (pss_one (ps_ret pe_int)), ?_⟩
    refine PuT.ifs (c := k < (ns.length : Int)) (fun Qt q => ⟨_, rfl, _, rfl, a, _, rfl, .inl hS, _, _, rfl, rfl, _, rfl, by rw [List.length_map]; exact q⟩) (fun z => ?_) (fun z => ?_)
    · obtain ⟨n, rfl⟩ : ∃ n : Nat, k = n := ⟨k.toNat, by omega⟩
      have hn : n < ns.length := by omega
      refine ⟨_, rfl, _, rfl, a, _, (n : Int), V.int ns[n], rfl, rfl, hS, atI_nat (by rw [List.getElem?_map]; simp [hn]), ?_⟩
      rw [List.getD_eq_getElem?_getD, show ((n : Int)).toNat = n from rfl] at q
      simpa [hn] using q
    · have e : ns.getD k.toNat 0 = 0 := by
        rw [List.getD_eq_getElem?_getD, List.getElem?_eq_none (by omega)]
        rfl
      rw [e] at q
      exact q
theorem scNum : FnScope ["_law_cells", "_law_found", "_law_k", "_law_cell", "_law_number"] ["_law_cells"] (defScope sNum) := ⟨rfl, rfl, rfl, by decide +kernel, rfl, by decide +kernel, by decide +kernel⟩
theorem ok_num {f C aW aT : Addr} {fd : FuncData} (F : Fun K "_law_numbers" "_law_numbers" sNum f fd) (T : Txt K mg C aW aT) : FnOk P w K mg base CX0 1 f fd ["_law_cells"] (spNum K) := by
  refine F.ok scNum (fun vs H Q E h => ?_) (fun cdv A outer s H vs Q E hr h => ?_)
  · obtain ⟨c, ns, rfl, _⟩ := h
    rfl
  · obtain ⟨c, ns, rfl, hS, hlen, k⟩ := h
    refine ⟨_, pss_cons (ps_set (i := 1) scNum.nd rfl (Or.inl rfl) (pe_lst pa_nil))
      (pss_cons (ps_for PassesOwn.never rfl (pi_enum rfl T.enu (pa_cons (pv 0) pa_nil)) (pg_tup rfl (pgs_cons (pg_name (i := 2) scNum.nd rfl (Or.inl rfl)) (pgs_cons (pg_name (i := 3) scNum.nd rfl (Or.inl rfl)) pgs_nil)))
        (pss_cons (ps_set (i := 4) scNum.nd rfl (Or.inl rfl) (pe_op op_mod (pv 3) pe_int))
        (pss_one (ps_expr (pe_bm PySem.F.plainAttrs_list PySem.F.slot_list_append PySem.F.type_list_append mt_append (pv 1) (pa_cons
          (pe_op op_mod (pe_op op_add (pe_op op_add (pe_op op_add (pe_op op_mul (pv 4) (pv 4)) (pe_op op_mul (pe_op op_add pe_int (pe_op op_mul pe_int (pv 2))) (pv 4))) (pe_op op_mul (pe_op op_mul pe_int (pv 2)) (pv 2))) pe_int) pe_int) pa_nil))))))
      (pss_one (ps_ret (pv 1)))), ?_⟩
    refine ⟨Nat.zero_le _, fun r hr0 => ?_⟩
    dsimp only [gName]
    have s1 : Same H (upd H r (.lst [])) := same_new hr0
    refine ⟨_, rfl, c, rfl, ⟨_, s1.seq hS⟩, for_enum (K := K) (a := c) (xs := ns.map V.int) (fun i σ H2 => ∃ (ms : List Int) (v2 v3 v4 : Option V), σ = [some (.ref c), some (.ref r), v2, v3, v4] ∧ Same H H2 ∧ H2 r = some (.lst (ms.map V.int)) ∧ ms.length = i ∧ ∀ m ∈ ms, 0 ≤ m)
      ⟨[], none, none, none, rfl, s1, upd_same, rfl, fun m hm => (by cases hm)⟩ (fun i σ H2 _ ⟨_, _, _, _, _, s2, _⟩ => s2.seq hS) ?_ ?_⟩
    · rintro i y σ H2 tp hi ⟨ms, v2, v3, v4, rfl, s2, er, el, em⟩ htp
      obtain ⟨z, rfl⟩ : ∃ z, y = V.int z := by
        rw [List.getElem?_map] at hi
        cases e : ns[i]? with
        | none => rw [e] at hi; cases hi
        | some z => rw [e] at hi; exact ⟨z, (Option.some.inj hi).symm⟩
      have hil : i < ns.length := by
        have := (List.getElem?_eq_some_iff.mp hi).1
        rwa [List.length_map] at this
      have s3 : Same H2 (upd H2 tp (.tup [.int (i : Int), .int z])) := same_new htp
      refine ⟨tp, _, rfl, SqT.of upd_same, rfl, _, _, rfl, _, _, rfl, rfl, ?_⟩
      refine ⟨_, rfl, _, _, rfl, rfl, (by show (0 : Int) < 1000000007; decide), ?_⟩
      dsimp only [gName]
      have b0 : 0 ≤ z % 1000000007 := Int.emod_nonneg _ (by decide)
      have b1 : z % 1000000007 < 1000000007 := Int.emod_lt_of_pos _ (by decide)
      have c1 : CMul (z % 1000000007) (z % 1000000007) := .inl ⟨by omega, by omega⟩
      have c2 : CMul 2 (i : Int) := .inl ⟨by decide, by decide⟩
      have c3 : CMul (30011 + 2 * (i : Int)) (z % 1000000007) := .inr ⟨by omega, by omega⟩
      have c4 : CMul 7919 (i : Int) := .inl ⟨by decide, by decide⟩
      have c5 : CMul (7919 * (i : Int)) (i : Int) := .inr ⟨by omega, by omega⟩
      refine ⟨_, rfl, .inl ⟨rfl, _, SqL.of (s3 _ _ er)⟩, ?_⟩
      refine ⟨_, rfl, _, rfl, _, _, rfl, rfl, c1, _, rfl, _, _, rfl, rfl, c2, _, _, rfl, rfl, _, rfl, _, _, rfl, rfl, c3, _, _, rfl, rfl, _, rfl, _, _, rfl, rfl, c4, _, rfl, _, _, rfl, rfl, c5, _, _, rfl, rfl, _, _, rfl, rfl, _, _, rfl, rfl, (by show (0 : Int) < 999999937; decide), ?_⟩
      refine ⟨r, _, _, rfl, rfl, s3 _ _ er, small1000 (by rw [List.length_map]; omega), ?_⟩
      refine ⟨ms ++ [(z % 1000000007 * (z % 1000000007) + (30011 + 2 * (i : Int)) * (z % 1000000007) + 7919 * (i : Int) * (i : Int) + 5) % 999999937], _, _, _, rfl, fun b o e => ?_, ?_, by rw [List.length_append, el]; rfl, fun m hm => ?_⟩
      · rw [upd_ne (ne_of_none e hr0)]
        exact s3 b o (s2 b o e)
      · rw [upd_same, List.map_append]
        rfl
      · rcases List.mem_append.mp hm with q | q
        · exact em m q
        · rw [List.mem_singleton.mp q]
          exact Int.emod_nonneg _ (by decide)
    · rintro σ H2 ⟨ms, v2, v3, v4, rfl, s2, er, el, em⟩
      refine ⟨_, rfl, ?_⟩
      exact k r ms H2 s2 hr0 er (by rw [el, List.length_map]) em
end
end K
namespace RC
open PySem L2
theorem cutV_take (xs : List V) (k : Nat) : cutV xs none (some (k : Int)) = xs.take k := by
  unfold cutV
  rw [HT.sIx_none, HT.sIx_nat, Nat.sub_zero, List.drop_zero]
  by_cases h : k ≤ xs.length
  · rw [Nat.min_eq_left h]
  · rw [Nat.min_eq_right (by omega), List.take_length, List.take_of_length_le (by omega)]
end RC
namespace L2
open PySem PySem.Spec PyProof.Rows
def Itz (K : PySem.W.Frag) (a b : Addr) : It :=
  ⟨fun i H => ∃ xs ys x y, SqL K H a xs ∧ SqL K H b ys ∧ xs[i]? = some x ∧ ys[i]? = some y,
   fun i H v H' => ∃ p x y, H p = none ∧ v = .ref p ∧ H' = upd H p (.tup [x, y]) ∧ (∀ xs, SqL K H a xs → xs[i]? = some x) ∧ ∀ ys, SqL K H b ys → ys[i]? = some y,
   fun i H => ∃ xs ys, SqL K H a xs ∧ SqL K H b ys ∧ (xs.length ≤ i ∨ ys.length ≤ i)⟩
structure ZA (z TI TO i1 i2 : Addr) : Prop where
  TIz : TI ≠ z
  TOz : TO ≠ z
  i1z : i1 ≠ z
  i2z : i2 ≠ z
  TITO : TI ≠ TO
  TIi1 : TI ≠ i1
  TIi2 : TI ≠ i2
  TOi1 : TO ≠ i1
  TOi2 : TO ≠ i2
  i12 : i1 ≠ i2
abbrev zSt (z TI TO i1 i2 a b : Addr) (i : Nat) (h : Heap) : Prop := IsZip h z TI TO .none ∧ IsPair h TI (.ref i1) (.ref i2) ∧ (∃ u v, IsPair h TO u v) ∧ h.IsListIter i1 a i ∧ h.IsListIter i2 b i
theorem ne_cls {h : Heap} {l p : Addr} {xs : Array Value} {o : Obj} (hl : h.IsList l xs) (e : h.get? p = some o) (hc : o.cls ≠ .type "list") : l ≠ p := by
  rintro rfl
  obtain ⟨o', e', c, _⟩ := hl
  rw [e] at e'
  cases e'
  exact hc c
theorem zapart {h : Heap} {z TI TO i1 i2 a b : Addr} {i : Nat} {xs ys : Array Value} (D : ZA z TI TO i1 i2) (st : zSt z TI TO i1 i2 a b i h) (hl1 : h.IsList a xs) (hl2 : h.IsList b ys) : ZipApart z TI TO i1 i2 a b := by
  obtain ⟨hz, hTI, ⟨u, v, hTO⟩, ⟨o1, e1, c1, _⟩, ⟨o2, e2, c2, _⟩⟩ := st
  have nz : (Value.type "zip") ≠ .type "list" := fun q => absurd (Value.type.inj q) (by decide)
  have nt : (Value.type "tuple") ≠ .type "list" := fun q => absurd (Value.type.inj q) (by decide)
  have ni : (Value.type "list_iterator") ≠ .type "list" := fun q => absurd (Value.type.inj q) (by decide)
  exact ⟨D.TIz, D.TOz, D.i1z, D.i2z, D.TITO, D.TIi1, D.TIi2, D.TOi1, D.TOi2, D.i12, ne_cls hl1 hz nz, ne_cls hl1 hTO nt, ne_cls hl1 e1 (by rw [c1]; exact ni), ne_cls hl1 e2 (by rw [c2]; exact ni),
    ne_cls hl2 hz nz, ne_cls hl2 hTO nt, ne_cls hl2 e1 (by rw [c1]; exact ni), ne_cls hl2 e2 (by rw [c2]; exact ni)⟩
theorem turn_zip {P : Program} {w : World} {K : PySem.W.Frag} {elts : List Expr} {k : Nat} {pos : Pos} (a b z TI TO i1 i2 : Addr) (D : ZA z TI TO i1 i2) : Turn P w K (.Tuple elts k pos) (Itz K a b) [z, TI, TO, i1, i2] z (zSt z TI TO i1 i2 a b) where
  mem := by simp
  obj := fun i h st c hc => by
    obtain ⟨hz, hTI, ⟨u, v, hTO⟩, ⟨o1, e1, c1, d1⟩, ⟨o2, e2, c2, d2⟩⟩ := st
    have hc' : c = z ∨ c = TI ∨ c = TO ∨ c = i1 ∨ c = i2 := by simpa using hc
    rcases hc' with rfl | rfl | rfl | rfl | rfl
    · exact ⟨_, hz, fun v' q => by
        have q' : Data.fields _ = Data.cell v' := q
        cases q'⟩
    · exact ⟨_, hTI, fun v' q => by
        have q' : Data.seq _ _ = Data.cell v' := q
        cases q'⟩
    · exact ⟨_, hTO, fun v' q => by
        have q' : Data.seq _ _ = Data.cell v' := q
        cases q'⟩
    · exact ⟨o1, e1, fun v' q => by rw [d1] at q; cases q⟩
    · exact ⟨o2, e2, fun v' q => by rw [d2] at q; cases q⟩
  keep := fun i h h' st k => by
    obtain ⟨hz, hTI, ⟨u, v, hTO⟩, h1, h2⟩ := st
    exact ⟨k z (by simp) _ hz, k TI (by simp) _ hTI, ⟨u, v, k TO (by simp) _ hTO⟩, h1.at fun o x => k i1 (by simp) o x, h2.at fun o x => k i2 (by simp) o x⟩
  item := by
    intro X hP hw hK hc i pins s σ H E I hf st hg
    subst hP hw hK
    obtain ⟨xs, ys, x, y, hq1, hq2, hx, hy⟩ := hg
    obtain ⟨its, rv, p, hz1⟩ := I.list hq1
    obtain ⟨its2, rv2, p2, hz2⟩ := I.list hq2
    obtain ⟨u, hu, ru⟩ := rv.get hx
    obtain ⟨u2, hu2, ru2⟩ := rv2.get hy
    have ZD := zapart D st p.isList p2.isList
    obtain ⟨hz, hTI, ⟨v1, v2, hTO⟩, h1, h2⟩ := st
    refine wpAny_pyNext_zip_item ZD hz hTI hTO h1 h2 p.isList p2.isList (x := u) (y := u2) (by simpa using hu) (by simpa using hu2) fun h' hz' hTO' h1' h2' hT hsz hk => ⟨_, rfl, ?_⟩
    refine wpAny_letOwnedTupleGo_zip hz' fun h'' hz'' hs'' => ?_
    have hn : H s.heap.objs.size = none := I.hok.fresh (Nat.le_refl _)
    have hzlt : z < s.heap.objs.size := Heap.lt_size hz
    have hk' : ∀ c o, c ∉ [z, TI, TO, i1, i2] → s.heap.get? c = some o → h''.get? c = some o := fun c o hc' q =>
      (hs''.2 c (fun e => hc' (by simp [e]))).trans (hk c o (fun e => hc' (by simp [e])) (fun e => hc' (by simp [e])) (fun e => hc' (by simp [e])) (fun e => hc' (by simp [e])) q)
    have hT' : h''.get? s.heap.objs.size = some { cls := .type "tuple", data := .seq #[u, u2] } := (hs''.2 _ (Nat.ne_of_gt hzlt)).trans hT
    have nt : ∀ c o, H c = some o → c ∉ [z, TI, TO, i1, i2] := fun c o q hc' => by
      rw [(hf c hc').1] at q
      cases q
    have I1 : Inv X pins σ (upd H s.heap.objs.size (.tup [x, y])) { s with heap := h'' } := by
      refine I.step (g' := s.gens) (d' := s.drawn) (t' := s.toks) (ch := [z, TI, TO, i1, i2]) (fun c hc' => ?_) (fun c o _ _ hc' q _ => hk' c o hc' q)
        (fun c o _ _ hc' q _ => ⟨o.slots, hk' c o hc' q⟩) (fun c o _ q n => ?_) (fun c o hc' q => ⟨o, hk' c o hc' q⟩)
        (fun c ys q => ?_) (fun c o u' q => ?_) (fun c ps q => ⟨#[], ?_⟩) (fun m hm => ?_) (fun c o q => ?_) I.bare
      · exact ⟨(hf c hc').2.2.2.1, (hf c hc').2.1, (hf c hc').2.2.2.2.1, (hf c hc').2.2.2.2.2⟩
      · rw [upd_ne (Nat.ne_of_lt (Heap.lt_size q))]; exact n
      · rw [upd_ne (ne_of_none q hn)]; exact q
      · rw [upd_ne (ne_of_none q hn)]; exact q
      · rw [upd_ne (ne_of_none q hn), q]; simp
      · obtain ⟨o, es, ep, ho', r⟩ := hm
        exact ⟨o, es, ep, hk' _ o (fun hc' => (hf _ hc').2.1 rfl) ho', r⟩
      · by_cases hb : c = s.heap.objs.size
        · subst hb
          rw [upd_same] at q
          cases q
          refine ⟨by simp only [List.length_cons, List.length_nil]; rw [sizeLine_eq]; decide, [u, u2], .cons ru (.cons ru2 .nil), _, hT', rfl, 0, rfl⟩
        · rw [upd_ne hb] at q
          refine (I.hok c o q).stay (fun e v hc' q' => ?_) (fun e q' => by rw [upd_ne (ne_of_none q' hn)]; exact q') fun e ys q' => by rw [upd_ne (ne_of_none q' hn)]; exact q'
          rcases hc' with z' | z'
          · rw [z'] at q' ⊢
            exact hk' c v (nt c o q) q'
          · exact hk' e v (nt e _ z') q'
    refine ⟨.ref s.heap.objs.size, _, I1, rfl, ⟨_, x, y, hn, rfl, rfl, fun zs hy' => by rw [I.list_inj hy' hq1]; exact hx, fun zs hy' => by rw [I.list_inj hy' hq2]; exact hy⟩, ⟨hz'', ?_, ⟨u, u2, (hs''.2 _ D.TOz).trans hTO'⟩, ?_, ?_⟩, fun c hc' => ?_⟩
    · exact (hs''.2 _ D.TIz).trans (hk _ _ D.TIz D.TITO D.TIi1 D.TIi2 hTI)
    · exact h1'.at fun o q => (hs''.2 i1 D.i1z).trans q
    · exact h2'.at fun o q => (hs''.2 i2 D.i2z).trans q
    · have hcl : c < s.heap.objs.size := by
        obtain ⟨o1, e1, _⟩ := h1
        obtain ⟨o2, e2, _⟩ := h2
        have hc2 : c = z ∨ c = TI ∨ c = TO ∨ c = i1 ∨ c = i2 := by simpa using hc'
        rcases hc2 with rfl | rfl | rfl | rfl | rfl
        · exact hzlt
        · exact Heap.lt_size hTI
        · exact Heap.lt_size hTO
        · exact Heap.lt_size e1
        · exact Heap.lt_size e2
      rw [upd_ne (Nat.ne_of_lt hcl)]
      exact (hf c hc').1
  done := by
    intro X hP hw hK hc i pins s σ H E I hf st hg
    subst hP hw hK
    obtain ⟨xs, ys, hq1, hq2, hx⟩ := hg
    obtain ⟨its, rv, p, hz1⟩ := I.list hq1
    obtain ⟨its2, rv2, p2, hz2⟩ := I.list hq2
    have ZD := zapart D st p.isList p2.isList
    obtain ⟨hz, hTI, ⟨v1, v2, hTO⟩, h1, h2⟩ := st
    have l1 := rv.length
    have l2 := rv2.length
    refine wpAny_pyNext_zip_end (I.ok.hd hc) ZD hz hTI hTO h1 h2 p.isList p2.isList ?_ fun h' hk => ⟨rfl, ?_⟩
    · rcases hx with q | q
      · left; simp; omega
      · right; simp; omega
    · have st' : Inv X pins σ H { s with heap := h' } := by
        refine I.step (g' := s.gens) (d' := s.drawn) (t' := s.toks) (ch := [z, TI, TO, i1, i2]) (fun c hc' => ⟨(hf c hc').2.2.2.1, (hf c hc').2.1, (hf c hc').2.2.2.2.1, (hf c hc').2.2.2.2.2⟩) (fun c o _ _ hc' q _ => ?_)
          (fun c o _ _ hc' q _ => ⟨o.slots, ?_⟩) (fun c o _ q n => n) (fun c o hc' q => ⟨o, ?_⟩)
          (fun c ys q => q) (fun c o u' q => q) (fun c ps q => ⟨#[], by rw [q]; simp⟩) (fun m hm => ?_) (fun c o q => ?_) I.bare
        · exact hk c o (fun e => hc' (by simp [e])) (fun e => hc' (by simp [e])) (fun e => hc' (by simp [e])) (fun e => hc' (by simp [e])) q
        · exact hk c o (fun e => hc' (by simp [e])) (fun e => hc' (by simp [e])) (fun e => hc' (by simp [e])) (fun e => hc' (by simp [e])) q
        · exact hk c o (fun e => hc' (by simp [e])) (fun e => hc' (by simp [e])) (fun e => hc' (by simp [e])) (fun e => hc' (by simp [e])) q
        · obtain ⟨o, es, ep, ho', r⟩ := hm
          have hl : X.env.locals ∉ [z, TI, TO, i1, i2] := fun hc' => (hf _ hc').2.1 rfl
          exact ⟨o, es, ep, hk _ o (fun e => hl (by simp [e])) (fun e => hl (by simp [e])) (fun e => hl (by simp [e])) (fun e => hl (by simp [e])) ho', r⟩
        · have nt : ∀ c o, H c = some o → c ∉ [z, TI, TO, i1, i2] := fun c o q hc' => by
            rw [(hf c hc').1] at q
            cases q
          have up : ∀ c o v, H c = some o → s.heap.get? c = some v → h'.get? c = some v := fun c o v q q' => by
            have hc' := nt c o q
            exact hk c v (fun e => hc' (by simp [e])) (fun e => hc' (by simp [e])) (fun e => hc' (by simp [e])) (fun e => hc' (by simp [e])) q'
          refine (I.hok c o q).stay (fun e v hc' q' => ?_) (fun e q' => q') fun e ys q' => q'
          rcases hc' with z' | z'
          · rw [z'] at q' ⊢
            exact up c o v q q'
          · exact up e _ v z' q'
      exact st'
  self := fun _ _ _ _ _ st h => wpAny_pyIter_zip st.1 h
theorem ne_add {n i j : Nat} (h : i ≠ j) : n + i ≠ n + j := fun e => h (Nat.add_left_cancel e)
theorem za_of (n : Nat) : ZA (n + 4) (n + 2) (n + 3) n (n + 1) :=
  ⟨ne_add (by decide), ne_add (by decide), ne_add (i := 0) (by decide), ne_add (by decide), ne_add (by decide), ne_add (j := 0) (by decide), ne_add (by decide), ne_add (j := 0) (by decide), ne_add (by decide), ne_add (i := 0) (by decide)⟩
theorem boot_zip : bootBuiltins "zip" = some (.type "zip") := by decide +kernel
def iZip (K : PySem.W.Frag) (ta : TA) : TI := fun σ H R => ta σ H fun vs H1 => ∃ a b, vs = [.ref a, .ref b] ∧ (∃ xs, SqL K H1 a xs) ∧ (∃ ys, SqL K H1 b ys) ∧ R (Itz K a b) H1
theorem pi_zip {X : Cx} {elts : List Expr} {k : Nat} {tpos p pos : Pos} {a b : Expr} {ta : TA} (hg : Gl X "zip") (hm : X.mg "zip" = none) (ha : PA X [a, b] ta) (hs : starEach [a, b] X.env = [(false, eval a X.env), (false, eval b X.env)] := by rfl) (hs2 : starEach [b] X.env = [(false, eval b X.env)] := by rfl) :
    PI X (.Tuple elts k tpos) (.Call (.Name "zip" p) [a, b] [] pos) (iZip X.K ta) := by
  intro pins s σ H R I h
  refine Call_ (ld_blt I hg hm boot_zip (PyProof.Rows.callWith_type1 (thn (ha pos pins s σ H _ I h) fun us s1 ⟨vs, H1, I1, r1, q1⟩ => ?_) (by rw [hs, hs2]) (by rw [hs2]; rfl)))
  obtain ⟨l1, l2, e, ⟨xs, hq1⟩, ⟨ys, hq2⟩, q⟩ := q1
  subst e
  obtain ⟨u1, u2, rfl, r1', r2'⟩ := vals2 r1
  cases r1'
  cases r2'
  obtain ⟨its, rv, pl, hz⟩ := I1.list hq1
  obtain ⟨its2, rv2, pl2, hz2⟩ := I1.list hq2
  refine call_zip_2 pl.isList pl2.isList fun h' hZ hTI hTO h1 h2 hsz hk => ?_
  have I2 : Inv X pins σ H1 { s1 with heap := h' } := I1.kept (t' := s1.toks) hk
  refine wpAny_pyIter_zip hZ ?_
  have D : ZA (s1.heap.objs.size + 4) (s1.heap.objs.size + 2) (s1.heap.objs.size + 3) s1.heap.objs.size (s1.heap.objs.size + 1) := za_of _
  refine ⟨s1.heap.objs.size + 4, [s1.heap.objs.size + 4, s1.heap.objs.size + 2, s1.heap.objs.size + 3, s1.heap.objs.size, s1.heap.objs.size + 1], _, _, H1, rfl, I2, turn_zip l1 l2 _ _ _ _ _ D, ⟨hZ, hTI, ⟨_, _, hTO⟩, h1, h2⟩, fun c hc => ?_, q⟩
  have hb' : s1.heap.objs.size ≤ c := by
    have hc2 : c = s1.heap.objs.size + 4 ∨ c = s1.heap.objs.size + 2 ∨ c = s1.heap.objs.size + 3 ∨ c = s1.heap.objs.size ∨ c = s1.heap.objs.size + 1 := by simpa using hc
    rcases hc2 with rfl | rfl | rfl | rfl | rfl
    · exact Nat.le_add_right _ _
    · exact Nat.le_add_right _ _
    · exact Nat.le_add_right _ _
    · exact Nat.le_refl _
    · exact Nat.le_add_right _ _
  exact I1.fpOk hb' (I1.hok.fresh hb')
end L2
namespace L2
open PySem
end L2
namespace RC
open PySem L2
theorem cut_upto (ns : List Int) (a b : Nat) (h : a ≤ b) : ∃ ms : List Int, cutV (ns.map V.int) (some (a : Int)) (some (b : Int)) = ms.map V.int ∧ ms.length ≤ b - a := by
  unfold cutV
  rw [HT.sIx_nat, HT.sIx_nat]
  refine ⟨(ns.drop (min a (ns.map V.int).length)).take (min b (ns.map V.int).length - min a (ns.map V.int).length), ?_, ?_⟩
  · rw [List.map_take, List.map_drop]
  · rw [List.length_take, List.length_drop, List.length_map]
    omega
end RC
namespace K
open PySem L2 RC
structure TxtR (K : PySem.W.Frag) (mg : Str → Option Value) (CR : Addr) : Prop where
  cl : Cls K CR
  nM : NoAttr K CR "many"
  nS : NoAttr K CR "size"
  nA : NoAttr K CR "all_deeds"
  mgR : mg "Row" = some (.ref CR)
  mgT : ∃ t, mg "MOST_THREADS" = some (.int 6 t)
  mgD : ∃ t, mg "MOST_DEEDS" = some (.int 60 t)
theorem n_as : ¬ (("size" : Str) = "all_deeds") := by decide +kernel
theorem n_am : ¬ (("many" : Str) = "all_deeds") := by decide +kernel
theorem n_sm : ¬ (("many" : Str) = "size") := by decide +kernel
def rflds (m : Int) (n : Nat) (t : Addr) : List (Str × V) := putF "all_deeds" (.ref t) (putF "size" (.int (n : Int)) (putF "many" (.int m) []))
theorem rflds_a (m : Int) (n : Nat) (t : Addr) : (rflds m n t).lookup ("all_deeds" : Str) = some (.ref t) := by
  unfold rflds
  rw [lookup_putF, if_pos rfl]
theorem rflds_s (m : Int) (n : Nat) (t : Addr) : (rflds m n t).lookup ("size" : Str) = some (.int (n : Int)) := by
  unfold rflds
  rw [lookup_putF, if_neg n_as, lookup_putF, if_pos rfl]
theorem rflds_m (m : Int) (n : Nat) (t : Addr) : (rflds m n t).lookup ("many" : Str) = some (.int m) := by
  unfold rflds
  rw [lookup_putF, if_neg n_am, lookup_putF, if_neg n_sm, lookup_putF, if_pos rfl]
theorem rflds_no (m : Int) (n : Nat) (t : Addr) {x : Str} (h1 : ¬ x = "all_deeds") (h2 : ¬ x = "size") (h3 : ¬ x = "many") : (rflds m n t).lookup x = none := by
  unfold rflds
  rw [lookup_putF, if_neg h1, lookup_putF, if_neg h2, lookup_putF, if_neg h3]
  all_goals rfl
structure RowAt (CR : Addr) (H : Hp) (p : Addr) (m : Int) (xs : List V) : Prop where
  ex : ∃ dx t, H p = some (.ins CR dx (rflds m xs.length t)) ∧ H t = some (.tup xs)
theorem RowAt.same {CR : Addr} {H H' : Hp} {p : Addr} {m : Int} {xs : List V} (s : Same H H') (h : RowAt CR H p m xs) : RowAt CR H' p m xs := by
  obtain ⟨dx, t, e1, e2⟩ := h.ex
  exact ⟨dx, t, s _ _ e1, s _ _ e2⟩
theorem seq_off {K : PySem.W.Frag} {H H' : Hp} {p C dx l : Addr} {fs : List (Str × V)} {xs : List V} (hp : H p = some (.ins C dx fs)) (k : ∀ b o, H b = some o → b ≠ p → H' b = some o) (h : SqL K H l xs) : SqL K H' l xs := by
  rcases h with (h | ⟨o, h⟩) | h
  · exact .inl (.inl (k _ _ h (ne_of h hp (by intro z; cases z))))
  · exact .inl (.inr ⟨o, k _ _ h (ne_of h hp (by intro z; cases z))⟩)
  · exact .inr h
def spRow (K : PySem.W.Frag) (CR : Addr) : Sp := fun vs H Q _ => ∃ (p dx : Addr) (m : Int) (l : Addr) (xs : List V) (ds : List Deed), vs = [.ref p, .int m, .ref l] ∧ H p = some (.ins CR dx []) ∧ SqL K H l xs ∧ Deeds H xs ds ∧ 1 ≤ m ∧ m ≤ 6 ∧ ds.length ≤ 60 ∧ Fault m ds none ∧
  ∀ H', RowAt CR H' p m xs → (∀ b o, H b = some o → b ≠ p → H' b = some o) → Q .non H'
theorem row_made {K : PySem.W.Frag} {CR l x dx : Addr} {H : Hp} {m : Int} {xs : List V} {ds : List Deed} {Q : VK} {E : XK} (nx : H x = none) (ndx : H dx = none) (hl : SqL K H l xs) (hds : Deeds H xs ds) (m1 : 1 ≤ m) (m6 : m ≤ 6) (hlen : ds.length ≤ 60) (fa : Fault m ds none)
    (k : ∀ H', Same H H' → RowAt CR H' x m xs → Q .non H') : spRow K CR (.ref x :: ([.int m, .ref l] ++ [])) (upd (upd H dx (.own x)) x (.ins CR dx [])) Q E := by
  have s0 : Same H (upd (upd H dx (.own x)) x (.ins CR dx [])) := fun b o e => by
    rw [upd_ne (ne_of_none e nx), upd_ne (ne_of_none e ndx)]
    exact e
  exact ⟨x, dx, m, l, xs, ds, rfl, upd_same, s0.seq hl, hds.same s0, m1, m6, hlen, fa, fun H' R kp => k H' (fun b o e => kp b o (s0 b o e) (ne_of_none e nx)) R⟩
def spDeed (CR : Addr) : Sp := fun vs H Q _ => ∃ (p : Addr) (m : Int) (xs : List V) (i : Nat) (v : V), vs = [.ref p, .int (i : Int)] ∧ RowAt CR H p m xs ∧ xs[i]? = some v ∧ Q v H
def spRDs (CR : Addr) : Sp := fun vs H Q _ => ∃ (p : Addr) (m : Int) (xs : List V), vs = [.ref p] ∧ RowAt CR H p m xs ∧ ∀ l, H l = none → Q (.ref l) (upd H l (.lst xs))
section
variable {P : Program} {w : World} {K : PySem.W.Frag} {mg : Str → Option Value} {base : Heap}
theorem scRow : FnScope ["self", "many", "deeds", "found"] ["self", "many", "deeds"] (defScope sRow) := ⟨rfl, rfl, rfl, by decide +kernel, rfl, by decide +kernel, by decide +kernel⟩
theorem ok_row {f C aW aT CR fF : Addr} {fd fdF : FuncData} (F : Fun K "__init__" "Row.__init__" sRow f fd) (T : Txt K mg C aW aT) (R : TxtR K mg CR)
    (GF : FnOk P w K mg base CX0 4 fF fdF ["many", "deeds"] (spFault K)) (cF : Cal K mg "fault" fF fdF ["many", "deeds"]) : FnOk P w K mg base CX0 5 f fd ["self", "many", "deeds"] (spRow K CR) := by
  refine F.ok scRow (fun vs H Q E h => ?_) (fun cdv A outer s H vs Q E hr h => ?_)
  · obtain ⟨p, dx, m, l, xs, ds, rfl, _⟩ := h
    rfl
  · obtain ⟨p, dx, m, l, xs, ds, rfl, hp, hl, hds, m1, m6, hlen, fa, k⟩ := h
    have nd := scRow.nd
    obtain ⟨tT, hT⟩ := R.mgT
    obtain ⟨tD, hD⟩ := R.mgD
    refine ⟨_, pss_cons (ps_if (pt_not (pt_chain op_le op_le pe_int (pv 1) (pe_glob rfl hT (v := .int 6) ⟨_, rfl⟩))) pss_never pss_nil)
      (pss_cons (ps_if (pt_cmpR op_gt (pe_callB call_len_seq (by rfl) T.len PySem.boot_len (pa_cons (pv 2) pa_nil)) (pe_glob rfl hD (v := .int 60) ⟨_, rfl⟩) (nomark _)) pss_never pss_nil)
      (pss_cons (ps_set (i := 3) nd rfl (Or.inl rfl) (pe_call GF hr rfl cF.mgf cF.kp cF.b .nil pass0 (pa_cons (pv 1) (pa_cons (pv 2) pa_nil))))
      (pss_cons (ps_if (pt_cmpR op_notN (pv 3) pe_non (nomark _)) pss_never pss_nil)
      (pss_cons (ps_fld (pv 0) (pv 1) rfl)
      (pss_cons (ps_fld (pv 0) (pe_callB call_len_seq (by rfl) T.len PySem.boot_len (pa_cons (pv 2) pa_nil)) rfl)
      (pss_one (ps_fld (pv 0) (pe_callTy call_tuple_of rfl T.tup bTuple (pa_cons (pv 2) pa_nil)) rfl))))))), ?_⟩
    have hxl := hds.len
    refine PuT.ifs (c := False) (PuT.not (a := true) (fun Qt q => ⟨_, rfl, _, _, rfl, rfl, _, rfl, by
      rw [decide_eq_true m1]
      exact iteT ⟨_, _, rfl, rfl, _, rfl, by rw [decide_eq_true m6]; exact q⟩⟩)) (fun z => z.elim) (fun _ => ?_)
    refine PuT.ifs (c := False) (fun Qt q => ⟨_, rfl, l, xs, rfl, .inl hl, _, _, rfl, rfl, _, rfl, by
      rw [decide_eq_false (by omega)]
      exact q⟩) (fun z => z.elim) (fun _ => ?_)
    refine ⟨_, rfl, _, rfl, m, l, xs, ds, rfl, hl, hds, by omega, fun r v H2 fr s2 tv => ?_⟩
    dsimp only [gName]
    have er : r = none := fr.inj fa
    subst er
    have ev : v = .non := tv
    subst ev
    refine PuT.ifs (c := False) (fun Qt q => ⟨_, rfl, rfl, _, rfl, q⟩) (fun z => z.elim) (fun _ => ?_)
    refine ⟨_, rfl, _, rfl, p, CR, dx, [], rfl, s2 _ _ hp, R.cl, R.nM, (by show 0 < 1000; decide), ?_⟩
    have hl' : ∀ o, SqL K (upd H2 p o) l xs := fun o => seq_off hp (fun b u e hb => by rw [upd_ne hb]; exact s2 _ _ e) hl
    refine ⟨_, rfl, l, xs, rfl, .inl (hl' _), _, rfl, p, CR, dx, _, rfl, upd_same, R.cl, R.nS, (by show 1 < 1000; decide), ?_⟩
    rw [upd_upd]
    refine ⟨_, rfl, l, xs, rfl, .inl ⟨hl' _, fun t nt => ?_⟩⟩
    obtain ⟨ntp, nt0⟩ : t ≠ p ∧ H2 t = none := by
      by_cases e : t = p
      · rw [e, upd_same] at nt; cases nt
      · rw [upd_ne e] at nt; exact ⟨e, nt⟩
    refine ⟨_, rfl, p, CR, dx, _, rfl, (by rw [upd_ne ntp.symm, upd_same]), R.cl, R.nA, (by show 2 < 1000; decide), ?_⟩
    refine k _ ⟨dx, t, upd_same, by rw [upd_ne ntp, upd_same]⟩ (fun b o e hb => ?_)
    rw [upd_ne hb, upd_ne (ne_of_none (s2 _ _ e) nt0), upd_ne hb]
    exact s2 _ _ e
theorem scDeed : FnScope ["self", "place"] ["self", "place"] (defScope sDeed) := ⟨rfl, rfl, rfl, by decide +kernel, rfl, by decide +kernel, by decide +kernel⟩
theorem ok_deed {f CR : Addr} {fd : FuncData} (F : Fun K "deed" "Row.deed" sDeed f fd) (R : TxtR K mg CR) : FnOk P w K mg base CX0 1 f fd ["self", "place"] (spDeed CR) := by
  refine F.ok scDeed (fun vs H Q E h => ?_) (fun cdv A outer s H vs Q E hr h => ?_)
  · obtain ⟨p, m, xs, i, v, rfl, _⟩ := h
    rfl
  · obtain ⟨p, m, xs, i, v, rfl, hR, hv, k⟩ := h
    obtain ⟨dx, t, e1, e2⟩ := hR.ex
    refine ⟨_, pss_one (ps_ret (pe_ix ix_tup (pe_fld (pv 0) rfl) (pv 1) (fun _ _ => rfl))), ?_⟩
    exact ⟨_, rfl, p, CR, dx, _, _, rfl, e1, R.cl, R.nA, rflds_a _ _ _, _, rfl, t, _, _, v, rfl, rfl, SqT.of e2, atI_nat hv, k⟩
theorem scRDs : FnScope ["self"] ["self"] (defScope sRDs) := ⟨rfl, rfl, rfl, by decide +kernel, rfl, by decide +kernel, by decide +kernel⟩
theorem ok_rds {f C aW aT CR : Addr} {fd : FuncData} (F : Fun K "deeds" "Row.deeds" sRDs f fd) (T : Txt K mg C aW aT) (R : TxtR K mg CR) : FnOk P w K mg base CX0 1 f fd ["self"] (spRDs CR) := by
  refine F.ok scRDs (fun vs H Q E h => ?_) (fun cdv A outer s H vs Q E hr h => ?_)
  · obtain ⟨p, m, xs, rfl, _⟩ := h
    rfl
  · obtain ⟨p, m, xs, rfl, hR, k⟩ := h
    obtain ⟨dx, t, e1, e2⟩ := hR.ex
    refine ⟨_, pss_one (ps_ret (pe_callTy call_list_of rfl T.lst bList (pa_cons (pe_fld (pv 0) rfl) pa_nil))), ?_⟩
    exact ⟨_, rfl, p, CR, dx, _, _, rfl, e1, R.cl, R.nA, rflds_a _ _ _, t, xs, rfl, .inr (SqT.of e2), k⟩
end
end K
namespace L2
open PySem
abbrev frV (fr : List Nat) (σ : St) : St := fr.map fun i => (σ[i]?).join
theorem comp_by {J : It} {nt : Nat} {fr : List Nat} {g : TG} {tt : TT} {te : TE} {σ : St} {H1 : Hp} {Q : VK} {D : Addr} (n : Nat) (Pv : Nat → List V → Hp → Prop) (hn : n < sizeLine) (h0 : Pv 0 [] (upd H1 D (.lst [])))
    (go : ∀ i ys H', i < n → Pv i ys H' → J.go i H') (stop : ∀ ys H', Pv n ys H' → J.stop n H')
    (step : ∀ i ys H' (o : St) (N : St → Hp → Prop), i < n → o.length = nt → Pv i ys H' → H' D = some (.lst ys) → ys.length < sizeLine →
      (∀ (o2 : St) v H5, o2.length = nt → Pv (i + 1) (ys ++ [v]) (upd H5 D (.lst (ys ++ [v]))) → N (o2 ++ frV fr σ) (upd H5 D (.lst (ys ++ [v])))) → (∀ (o2 : St) H5, o2.length = nt → H5 D = some (.lst ys) → Pv (i + 1) ys H5 → N (o2 ++ frV fr σ) H5) →
      ∀ x H2, J.yld i H' x H2 → g x (o ++ frV fr σ) H2 fun σ2 H3 => tt σ2 H3 fun b H4 => if b = true then te σ2 H4 fun v H5 => ∃ ys, H5 D = some (.lst ys) ∧ ys.length < sizeLine ∧ N σ2 (upd H5 D (.lst (ys ++ [v]))) else N σ2 H4)
    (fin : ∀ ys H', Pv n ys H' → H' D = some (.lst ys) → Q (.ref D) H') :
    ∃ W : Nat → Nat → St → Hp → Prop, (∃ m, W 0 m (startC nt fr σ) (upd H1 D (.lst []))) ∧
      ∀ i m σ' H', W i m σ' H' → (J.stop i H' ∧ Q (.ref D) H') ∨ (J.go i H' ∧ ∃ N : St → Hp → Prop, (∀ σ2 H2, N σ2 H2 → ∃ m', m' < m ∧ W (i + 1) m' σ2 H2) ∧
        ∀ x H2, J.yld i H' x H2 → g x σ' H2 fun σ2 H3 => tt σ2 H3 fun b H4 => if b = true then te σ2 H4 fun v H5 => ∃ ys, H5 D = some (.lst ys) ∧ ys.length < sizeLine ∧ N σ2 (upd H5 D (.lst (ys ++ [v]))) else N σ2 H4) := by
  refine ⟨fun i m σ' H' => m = n - i ∧ i ≤ n ∧ (∃ o : St, o.length = nt ∧ σ' = o ++ frV fr σ) ∧ ∃ ys : List V, H' D = some (.lst ys) ∧ ys.length ≤ i ∧ Pv i ys H', ⟨n, by simp, Nat.zero_le _, ⟨List.replicate nt none, by simp, rfl⟩, [], upd_same, Nat.le_refl _, h0⟩, ?_⟩
  rintro i m σ' H' ⟨rfl, hi, ⟨o, ho, rfl⟩, ys, hD, hl, hP⟩
  by_cases hlt : i < n
  · refine .inr ⟨go i ys H' hlt hP, fun σ2 H2 => (∃ o : St, o.length = nt ∧ σ2 = o ++ frV fr σ) ∧ ∃ ys : List V, H2 D = some (.lst ys) ∧ ys.length ≤ i + 1 ∧ Pv (i + 1) ys H2, fun σ2 H2 ⟨h1, h2⟩ => ⟨n - (i + 1), by omega, rfl, hlt, h1, h2⟩, fun x H2 y => ?_⟩
    refine step i ys H' o _ hlt ho hP hD (by omega) (fun o2 v H5 h2 p => ⟨⟨o2, h2, rfl⟩, ys ++ [v], upd_same, ?_, p⟩) (fun o2 H5 h2 hd p => ⟨⟨o2, h2, rfl⟩, ys, hd, by omega, p⟩) x H2 y
    rw [List.length_append, List.length_singleton]
    omega
  · have e : i = n := by omega
    subst e
    exact .inl ⟨stop ys H' hP, fin ys H' hP hD⟩
theorem comp_zip {K : PySem.W.Frag} {a b : Addr} {xs zs : List V} {fr : List Nat} {te : TE} {σ : St} {H1 : Hp} {Q : VK} {D : Addr} {k : Nat} (f : Nat → V) (hD : H1 D = none) (ha : SqL K H1 a xs) (hb : SqL K H1 b zs) (hl : xs.length = zs.length) (hz : xs.length < sizeLine)
    (he : ∀ i x y H3 (Qe : VK), xs[i]? = some x → zs[i]? = some y → Same H1 H3 → (∀ H5, Same H3 H5 → Qe (f i) H5) → te (some x :: some y :: frV fr σ) H3 Qe)
    (fin : ∀ H', Same H1 H' → H' D = some (.lst ((List.range xs.length).map f)) → Q (.ref D) H') :
    ∃ W : Nat → Nat → St → Hp → Prop, (∃ m, W 0 m (startC 2 fr σ) (upd H1 D (.lst []))) ∧
      ∀ i m σ' H', W i m σ' H' → ((Itz K a b).stop i H' ∧ Q (.ref D) H') ∨ ((Itz K a b).go i H' ∧ ∃ N : St → Hp → Prop, (∀ σ2 H2, N σ2 H2 → ∃ m', m' < m ∧ W (i + 1) m' σ2 H2) ∧
        ∀ x H2, (Itz K a b).yld i H' x H2 → gTup K 2 (gCons (gName 0) (gCons (gName 1) gNil)) x σ' H2 fun σ2 H3 => tYes σ2 H3 fun b H4 => if b = true then te σ2 H4 fun v H5 => ∃ ys, H5 D = some (.lst ys) ∧ ys.length < sizeLine ∧ N σ2 (upd H5 D (.lst (ys ++ [v]))) else N σ2 H4) := by
  refine comp_by xs.length (fun i ys H' => ys = (List.range i).map f ∧ Same H1 H') hz ⟨rfl, same_new hD⟩ (fun i ys H' hi ⟨_, s⟩ => ?_) (fun ys H' ⟨_, s⟩ => ⟨xs, zs, s.seq ha, s.seq hb, .inl (Nat.le_refl _)⟩) (fun i ys H' o N hi ho ⟨e, s⟩ hd hys kT kF x H2 y => ?_) (fun ys H' ⟨e, s⟩ hd => fin H' s (by rw [hd, e]))
  · exact ⟨xs, zs, xs[i], zs[i], s.seq ha, s.seq hb, by simp [hi], by simp [show i < zs.length by omega]⟩
  · obtain ⟨p, u, v, hp, rfl, rfl, hu, hv⟩ := y
    have hu := hu xs (s.seq ha)
    have hv := hv zs (s.seq hb)
    match o, ho with
    | [o1, o2], _ =>
      refine ⟨p, _, rfl, SqT.of upd_same, rfl, _, _, rfl, _, _, rfl, rfl, ?_⟩
      have sp : Same H' (upd H' p (.tup [u, v])) := same_new hp
      have q := he i u v (upd H' p (.tup [u, v])) (fun v' H5 => ∃ ys, H5 D = some (.lst ys) ∧ ys.length < sizeLine ∧ N (some u :: some v :: frV fr σ) (upd H5 D (.lst (ys ++ [v'])))) hu hv (s.trans sp) fun H5 s5 => ⟨ys, s5 _ _ (sp _ _ hd), hys, kT [some u, some v] (f i) H5 rfl ⟨?_, ?_⟩⟩
      · exact q
      · rw [e, List.range_succ, List.map_append]; rfl
      · exact fun b o q => by rw [upd_ne (ne_of_none q hD)]; exact s5 _ _ (sp _ _ (s _ _ q))
theorem comp_range {n : Nat} {lo : Int} {fr : List Nat} {tt : TT} {te : TE} {σ : St} {H1 : Hp} {Q : VK} {D : Addr} (Pv : Nat → List V → Hp → Prop) (hn : n < sizeLine) (h0 : Pv 0 [] (upd H1 D (.lst [])))
    (step : ∀ i ys H' (N : St → Hp → Prop), i < n → Pv i ys H' → H' D = some (.lst ys) → ys.length < sizeLine →
      (∀ v H5, Pv (i + 1) (ys ++ [v]) (upd H5 D (.lst (ys ++ [v]))) → N (some (.int (lo + i)) :: frV fr σ) (upd H5 D (.lst (ys ++ [v])))) → (∀ H5, H5 D = some (.lst ys) → Pv (i + 1) ys H5 → N (some (.int (lo + i)) :: frV fr σ) H5) →
      tt (some (.int (lo + i)) :: frV fr σ) H' fun b H4 => if b = true then te (some (.int (lo + i)) :: frV fr σ) H4 fun v H5 => ∃ ys, H5 D = some (.lst ys) ∧ ys.length < sizeLine ∧ N (some (.int (lo + i)) :: frV fr σ) (upd H5 D (.lst (ys ++ [v]))) else N (some (.int (lo + i)) :: frV fr σ) H4)
    (fin : ∀ ys H', Pv n ys H' → H' D = some (.lst ys) → Q (.ref D) H') :
    ∃ W : Nat → Nat → St → Hp → Prop, (∃ m, W 0 m (startC 1 fr σ) (upd H1 D (.lst []))) ∧
      ∀ i m σ' H', W i m σ' H' → ((Itr lo n).stop i H' ∧ Q (.ref D) H') ∨ ((Itr lo n).go i H' ∧ ∃ N : St → Hp → Prop, (∀ σ2 H2, N σ2 H2 → ∃ m', m' < m ∧ W (i + 1) m' σ2 H2) ∧
        ∀ x H2, (Itr lo n).yld i H' x H2 → gName 0 x σ' H2 fun σ2 H3 => tt σ2 H3 fun b H4 => if b = true then te σ2 H4 fun v H5 => ∃ ys, H5 D = some (.lst ys) ∧ ys.length < sizeLine ∧ N σ2 (upd H5 D (.lst (ys ++ [v]))) else N σ2 H4) := by
  refine comp_by n Pv hn h0 (fun i ys H' hi _ => hi) (fun ys H' _ => Nat.le_refl _) (fun i ys H' o N hi ho hP hd hys kT kF x H2 y => ?_) fin
  obtain ⟨rfl, rfl⟩ := y
  match o, ho with
  | [o1], _ => exact step i ys _ N hi hP hd hys (fun v H5 p => kT [some (.int (lo + i))] v H5 rfl p) (fun H5 d p => kF [some (.int (lo + i))] H5 rfl d p)
theorem tComp_zip {K : PySem.W.Frag} {a b : Addr} {xs zs : List V} {fr : List Nat} {ta : TA} {te : TE} {σ : St} {H : Hp} {Q : VK} (f : Nat → V) (h : ∀ Q' : List V → Hp → Prop, Q' [.ref a, .ref b] H → ta σ H Q') (ha : SqL K H a xs) (hb : SqL K H b zs) (hl : xs.length = zs.length) (hz : xs.length < sizeLine)
    (he : ∀ i x y H3 (Qe : VK), xs[i]? = some x → zs[i]? = some y → Same H H3 → (∀ H5, Same H3 H5 → Qe (f i) H5) → te (some x :: some y :: frV fr σ) H3 Qe)
    (fin : ∀ D H', H D = none → Same H H' → H' D = some (.lst ((List.range xs.length).map f)) → Q (.ref D) H') : tComp 2 fr (iZip K ta) (gTup K 2 (gCons (gName 0) (gCons (gName 1) gNil))) tYes te σ H Q :=
  h _ ⟨a, b, rfl, ⟨xs, ha⟩, ⟨zs, hb⟩, fun D hD => comp_zip (k := 0) f hD ha hb hl hz he (fun H' => fin D H' hD)⟩
theorem tComp_range {n : Nat} {fr : List Nat} {ta : TA} {tt : TT} {te : TE} {σ : St} {H : Hp} {Q : VK} (Pv : Addr → Nat → List V → Hp → Prop) (h : ∀ Q' : List V → Hp → Prop, Q' [.int (n : Int)] H → ta σ H Q') (hn : n ≤ 1000) (h0 : ∀ D, H D = none → Pv D 0 [] (upd H D (.lst [])))
    (step : ∀ D, H D = none → ∀ i ys H' (N : St → Hp → Prop), i < n → Pv D i ys H' → H' D = some (.lst ys) → ys.length < sizeLine →
      (∀ v H5, Pv D (i + 1) (ys ++ [v]) (upd H5 D (.lst (ys ++ [v]))) → N (some (.int (i : Int)) :: frV fr σ) (upd H5 D (.lst (ys ++ [v])))) → (∀ H5, H5 D = some (.lst ys) → Pv D (i + 1) ys H5 → N (some (.int (i : Int)) :: frV fr σ) H5) →
      tt (some (.int (i : Int)) :: frV fr σ) H' fun b H4 => if b = true then te (some (.int (i : Int)) :: frV fr σ) H4 fun v H5 => ∃ ys, H5 D = some (.lst ys) ∧ ys.length < sizeLine ∧ N (some (.int (i : Int)) :: frV fr σ) (upd H5 D (.lst (ys ++ [v]))) else N (some (.int (i : Int)) :: frV fr σ) H4)
    (fin : ∀ D, H D = none → ∀ ys H', Pv D n ys H' → H' D = some (.lst ys) → Q (.ref D) H') : tComp 1 fr (iRng1 ta) (gName 0) tt te σ H Q :=
  h _ ⟨(n : Int), rfl, by omega, by omega, fun D hD => comp_range (lo := 0) (n := n) (Pv D) (small1000 hn) (h0 D hD) (fun i ys H' N hi hP hd hys kT kF => by
    have e : (0 : Int) + (i : Int) = (i : Int) := by omega
    rw [e] at kT kF ⊢
    exact step D hD i ys H' N hi hP hd hys kT kF) (fin D hD)⟩
end L2
namespace L2
open PySem PySem.Spec PyProof.Rows
def rGetL (K : PySem.W.Frag) : V → V → Hp → VK → Prop := fun o i H Q => ∃ (p : Addr) (xs : List V) (k : Nat) (v : V), o = .ref p ∧ i = .int (k : Int) ∧ SqL K H p xs ∧ xs[k]? = some v ∧ Q v H
theorem get_list {X : Cx} : PGet X (rGetL X.K) := by
  intro pins s σ H o i ov iv Q I ro ri h
  obtain ⟨p, xs, k, v, rfl, rfl, hq, hv, q⟩ := h
  cases ro
  obtain ⟨t, rfl⟩ := ri
  obtain ⟨its, r, pl, hz⟩ := I.list hq
  obtain ⟨w, ew, rw'⟩ := r.get hv
  have hk : k < xs.length := (List.getElem?_eq_some_iff.mp hv).1
  have hn := line63
  exact wpAny_getItem_list pl.isList (by omega) (by omega) (by simpa using ew) ⟨v, H, I, rw', q⟩
end L2
namespace RC
open PySem
def edge (a b : Deed) : Prop := a.1 = b.1 ∨ (a.2.1 = W.fork ∧ (b.1 = a.2.2 ∨ (b.2.1 = W.wait ∧ b.2.2 = a.2.2))) ∨ (b.2.1 = W.wait ∧ b.2.2 = a.1) ∨ (a.2.1 = W.give ∧ b.2.1 = W.take ∧ a.2.2 = b.2.2)
instance (a b : Deed) : Decidable (edge a b) := by unfold edge; infer_instance
def pre (D : Nat → Deed) (i : Nat) : List Deed := (List.range i).map D
theorem pre_succ (D : Nat → Deed) (i : Nat) : pre D (i + 1) = pre D i ++ [D i] := by
  unfold pre
  rw [List.range_succ, List.map_append]
  rfl
theorem mem_pre {D : Nat → Deed} {i : Nat} {d : Deed} : d ∈ pre D i ↔ ∃ j, j < i ∧ D j = d := by
  unfold pre
  simp
def rank (D : Nat → Deed) (t : Int) : Nat → Nat
  | 0 => 0
  | k + 1 => rank D t k + (if (D k).1 = t then 1 else 0)
theorem rank_mono {D : Nat → Deed} {t : Int} {i : Nat} : ∀ {j : Nat}, i ≤ j → rank D t i ≤ rank D t j
  | 0, h => by
    have : i = 0 := by omega
    subst this
    exact Nat.le_refl _
  | j + 1, h => by
    rcases Nat.lt_or_eq_of_le h with q | q
    · exact Nat.le_trans (rank_mono (Nat.le_of_lt_succ q)) (Nat.le_add_right _ _)
    · rw [q]; exact Nat.le_refl _
theorem rank_own {D : Nat → Deed} {k : Nat} : rank D (D k).1 (k + 1) = rank D (D k).1 k + 1 := by
  show rank D (D k).1 k + (if (D k).1 = (D k).1 then 1 else 0) = _
  rw [if_pos rfl]
theorem rank_none {D : Nat → Deed} {t : Int} {i : Nat} : ∀ {k : Nat}, i ≤ k → (∀ j, i ≤ j → j < k → (D j).1 ≠ t) → rank D t k = rank D t i
  | 0, h, _ => by
    have : i = 0 := by omega
    subst this
    rfl
  | k + 1, h, hn => by
    rcases Nat.lt_or_eq_of_le h with q | q
    · show rank D t k + _ = _
      rw [if_neg (hn k (Nat.le_of_lt_succ q) (Nat.lt_succ_self _)), Nat.add_zero]
      exact rank_none (Nat.le_of_lt_succ q) fun j h1 h2 => hn j h1 (Nat.lt_succ_of_lt h2)
    · rw [q]
structure IsN (D : Nat → Deed) (n : Nat) (N : Nat → Int → Nat) : Prop where
  own : ∀ k, k < n → N k (D k).1 = rank D (D k).1 k + 1
  ge : ∀ k, k < n → ∀ u, u ≠ (D k).1 → ∀ j, j < k → edge (D j) (D k) → N j u ≤ N k u
  le : ∀ k, k < n → ∀ u, u ≠ (D k).1 → N k u = 0 ∨ ∃ j, j < k ∧ edge (D j) (D k) ∧ N k u = N j u
section
variable {D : Nat → Deed} {n : Nat} {N : Nat → Int → Nat}
theorem IsN.bound (h : IsN D n N) : ∀ k, k < n → ∀ u, N k u ≤ rank D u (k + 1) := by
  intro k
  induction k using Nat.strongRecOn with
  | ind k ih =>
    intro hk u
    by_cases e : u = (D k).1
    · subst e
      rw [h.own k hk, rank_own]
      exact Nat.le_refl _
    · rcases h.le k hk u e with q | ⟨j, hj, _, q⟩
      · rw [q]; exact Nat.zero_le _
      · rw [q]
        exact Nat.le_trans (ih j hj (by omega) u) (rank_mono (by omega))
theorem IsN.mono (h : IsN D n N) {j k : Nat} (hk : k < n) (hj : j < k) (e : edge (D j) (D k)) (u : Int) : N j u ≤ N k u := by
  by_cases q : u = (D k).1
  · subst q
    rw [h.own k hk]
    exact Nat.le_trans (h.bound j (by omega) _) (Nat.le_trans (rank_mono (by omega)) (Nat.le_succ _))
  · exact h.ge k hk u q j hj e
inductive Bf (D : Nat → Deed) : Nat → Nat → Prop where
  | one {j k : Nat} : j < k → edge (D j) (D k) → Bf D k j
  | two {i j k : Nat} : j < k → edge (D j) (D k) → Bf D j i → Bf D k i
theorem Bf.lt {j k : Nat} (h : Bf D k j) : j < k := by
  induction h with
  | one h _ => exact h
  | two h _ _ ih => omega
theorem Bf.step {k i : Nat} : Bf D k i ↔ ∃ j, j < k ∧ edge (D j) (D k) ∧ (i = j ∨ Bf D j i) := by
  constructor
  · intro h
    cases h with
    | one h1 h2 => exact ⟨i, h1, h2, .inl rfl⟩
    | two h1 h2 h3 => exact ⟨_, h1, h2, .inr h3⟩
  · rintro ⟨j, h1, h2, rfl | h3⟩
    · exact .one h1 h2
    · exact .two h1 h2 h3
theorem IsN.tells (h : IsN D n N) : ∀ k, k < n → ∀ j, (j = k ∨ Bf D k j) ↔ rank D (D j).1 j < N k (D j).1 := by
  intro k
  induction k using Nat.strongRecOn with
  | ind k ih =>
    intro hk j
    by_cases e : (D j).1 = (D k).1
    · have ho : N k (D j).1 = rank D (D j).1 k + 1 := by rw [e]; exact h.own k hk
      rw [ho]
      constructor
      · intro q
        have hj : j ≤ k := by
          rcases q with q | q
          · omega
          · exact Nat.le_of_lt q.lt
        exact Nat.lt_succ_of_le (rank_mono hj)
      · intro q
        rcases Nat.lt_trichotomy j k with z | z | z
        · exact .inr (.one z (.inl e))
        · exact .inl z
        · exfalso
          have h1 : rank D (D j).1 (k + 1) ≤ rank D (D j).1 j := rank_mono (by omega)
          have h2 : rank D (D j).1 (k + 1) = rank D (D j).1 k + 1 := by
            show rank D (D j).1 k + (if (D k).1 = (D j).1 then 1 else 0) = _
            rw [if_pos e.symm]
          omega
    · constructor
      · rintro (q | q)
        · subst q; exact absurd rfl e
        · obtain ⟨i, hi, ei, q'⟩ := Bf.step.mp q
          have := (ih i hi (by omega) j).mp (by
            rcases q' with q' | q'
            · exact .inl q'
            · exact .inr q')
          exact Nat.lt_of_lt_of_le this (h.ge k hk _ e i hi ei)
      · intro q
        rcases h.le k hk _ e with z | ⟨i, hi, ei, z⟩
        · rw [z] at q; exact absurd q (Nat.not_lt_zero _)
        · rw [z] at q
          exact .inr (Bf.step.mpr ⟨i, hi, ei, (ih i hi (by omega) j).mpr q⟩)
theorem IsN.ahead (h : IsN D n N) {j k : Nat} (hk : k < n) (hj : j < n) (ne : j ≠ k) : Bf D k j ↔ N j (D j).1 ≤ N k (D j).1 := by
  rw [h.own j hj]
  have := h.tells k hk j
  constructor
  · intro q; exact this.mp (.inr q)
  · intro q
    rcases this.mpr q with z | z
    · exact absurd z ne
    · exact z
end
end RC
namespace RC
open PySem
structure CS where
  reached : Int → Int → Nat
  given : Int → Option (Int → Nat)
def cs0 : CS := ⟨fun _ _ => 0, fun _ => none⟩
def clk1 (s : CS) (d : Deed) : Int → Nat := if d.2.1 = W.take then (match s.given d.2.2 with | some g => fun u => max (s.reached d.1 u) (g u) | none => s.reached d.1) else s.reached d.1
def clk2 (s : CS) (d : Deed) : Int → Nat := if d.2.1 = W.wait then fun u => max (clk1 s d u) (s.reached d.2.2 u) else clk1 s d
def clk (s : CS) (d : Deed) : Int → Nat := fun u => if u = d.1 then clk2 s d u + 1 else clk2 s d u
def stepC (s : CS) (d : Deed) : CS :=
  ⟨fun t => if d.2.1 = W.fork ∧ t = d.2.2 then clk s d else if t = d.1 then clk s d else s.reached t, fun x => if d.2.1 = W.give ∧ x = d.2.2 then some (clk s d) else s.given x⟩
def csOf (ds : List Deed) : CS := ds.foldl stepC cs0
theorem csOf_snoc (ds : List Deed) (d : Deed) : csOf (ds ++ [d]) = stepC (csOf ds) d := by
  unfold csOf
  rw [List.foldl_append]
  rfl
def NC (D : Nat → Deed) (k : Nat) : Int → Nat := clk (csOf (pre D k)) (D k)
structure NoF (D : Nat → Deed) (n : Nat) : Prop where
  up : ∀ k, k < n → (stOf (pre D k)).awake (D k).1 = true
  fk : ∀ k, k < n → (D k).2.1 = W.fork → (stOf (pre D k)).awake (D k).2.2 = false
  wt : ∀ k, k < n → (D k).2.1 = W.wait → (D k).2.2 ≠ (D k).1
  gv : ∀ k, k < n → (D k).2.1 = W.give → (stOf (pre D k)).hold (D k).2.2 = some (D k).1
theorem nof_of {D : Nat → Deed} {n : Nat} {m : Int} (h : ∀ k, k < n → faultOf m (stOf (pre D k)) (D k) = none) : NoF D n := by
  have key : ∀ k, k < n → thF (stOf (pre D k)) (D k).1 = none ∧ woF (stOf (pre D k)) (D k) = none := fun k hk => by
    have := h k hk
    unfold faultOf stF at this
    rw [Option.or_eq_none_iff, Option.or_eq_none_iff] at this
    exact this.2
  refine ⟨fun k hk => ?_, fun k hk e => ?_, fun k hk e z => ?_, fun k hk e => ?_⟩
  · have := (key k hk).1
    unfold thF at this
    cases q : (stOf (pre D k)).awake (D k).1 with
    | true => rfl
    | false => rw [if_pos q] at this; cases this
  · have := (key k hk).2
    unfold woF at this
    rw [if_neg (fun z => nTF (z.1.symm.trans e)), if_neg (fun z => nGF (z.1.symm.trans e))] at this
    cases q : (stOf (pre D k)).awake (D k).2.2 with
    | false => rfl
    | true => rw [if_pos ⟨e, q⟩] at this; cases this
  · have := (key k hk).2
    unfold woF at this
    rw [if_neg (fun z => nTW (z.1.symm.trans e)), if_neg (fun z => nGW (z.1.symm.trans e)), if_neg (fun z => nFW (z.1.symm.trans e))] at this
    split at this
    · cases this
    · rw [if_pos ⟨e, z⟩] at this; cases this
  · have := (key k hk).2
    unfold woF at this
    rw [if_neg (fun z => nTG (z.1.symm.trans e))] at this
    by_cases q : (stOf (pre D k)).hold (D k).2.2 = some (D k).1
    · exact q
    · rw [if_pos ⟨e, q⟩] at this; cases this
theorem awake_pre {D : Nat → Deed} {i : Nat} {t : Int} : (stOf (pre D i)).awake t = true ↔ t = 0 ∨ ∃ j, j < i ∧ (D j).2.1 = W.fork ∧ (D j).2.2 = t := by
  rw [awake_eq, decide_eq_true_iff]
  unfold awakeL
  rw [List.mem_cons, List.mem_map]
  constructor
  · rintro (q | ⟨o, ho, e⟩)
    · exact .inl q
    · obtain ⟨h1, h2⟩ := List.mem_filter.mp ho
      obtain ⟨j, hj, rfl⟩ := mem_pre.mp h1
      exact .inr ⟨j, hj, of_decide_eq_true h2, e⟩
  · rintro (q | ⟨j, hj, h1, h2⟩)
    · exact .inl q
    · exact .inr ⟨D j, List.mem_filter.mpr ⟨mem_pre.mpr ⟨j, hj, rfl⟩, decide_eq_true h1⟩, h2⟩
theorem hold_pre {D : Nat → Deed} {x t : Int} : ∀ {i : Nat}, (stOf (pre D i)).hold x = some t → ∃ k, k < i ∧ (D k).1 = t ∧ (D k).2.1 = W.take ∧ (D k).2.2 = x ∧ ∀ j, k < j → j < i → ¬ ((D j).2.1 = W.give ∧ (D j).2.2 = x)
  | 0, h => by cases h
  | i + 1, h => by
    rw [pre_succ, stOf_snoc] at h
    have h' : (if x = (D i).2.2 ∧ (D i).2.1 = W.take then some (D i).1 else if x = (D i).2.2 ∧ (D i).2.1 = W.give then none else (stOf (pre D i)).hold x) = some t := h
    by_cases q : x = (D i).2.2 ∧ (D i).2.1 = W.take
    · rw [if_pos q] at h'
      exact ⟨i, Nat.lt_succ_self _, Option.some.inj h', q.2, q.1.symm, fun j h1 h2 => by omega⟩
    · rw [if_neg q] at h'
      by_cases q2 : x = (D i).2.2 ∧ (D i).2.1 = W.give
      · rw [if_pos q2] at h'; cases h'
      · rw [if_neg q2] at h'
        obtain ⟨k, hk, e1, e2, e3, e4⟩ := hold_pre h'
        refine ⟨k, by omega, e1, e2, e3, fun j h1 h2 => ?_⟩
        rcases Nat.lt_succ_iff_lt_or_eq.mp h2 with z | z
        · exact e4 j h1 z
        · subst z
          exact fun y => q2 ⟨y.2.symm, y.1⟩
section
variable {D : Nat → Deed} {n : Nat}
theorem NoF.F1 (h : NoF D n) {f k : Nat} {t : Int} (hf : f < n) (hk : k < n) (e1 : (D f).2.1 = W.fork) (e2 : (D f).2.2 = t) (e3 : (D k).1 = t) : f < k := by
  have ha := h.fk f hf e1
  rw [e2] at ha
  have hu := h.up k hk
  rw [e3] at hu
  apply Classical.byContradiction
  intro q
  have : (stOf (pre D f)).awake t = true := by
    rcases awake_pre.mp hu with z | ⟨j, hj, z⟩
    · exact awake_pre.mpr (.inl z)
    · exact awake_pre.mpr (.inr ⟨j, by omega, z⟩)
  rw [this] at ha
  cases ha
theorem NoF.F2 (h : NoF D n) {f g : Nat} {t : Int} (hf : f < n) (hg : g < n) (e1 : (D f).2.1 = W.fork) (e2 : (D f).2.2 = t) (e3 : (D g).2.1 = W.fork) (e4 : (D g).2.2 = t) : f = g := by
  have key : ∀ {f g : Nat}, f < g → g < n → (D f).2.1 = W.fork → (D f).2.2 = t → (D g).2.1 = W.fork → (D g).2.2 = t → False := fun hl hg e1 e2 e3 e4 => by
    have ha := h.fk _ hg e3
    rw [e4, awake_pre.mpr (.inr ⟨_, hl, e1, e2⟩)] at ha
    cases ha
  rcases Nat.lt_trichotomy f g with z | z | z
  · exact (key z hg e1 e2 e3 e4).elim
  · exact z
  · exact (key z hf e3 e4 e1 e2).elim
theorem NoF.F3 (h : NoF D n) {f g : Nat} {x : Int} (hl : f < g) (hg : g < n) (e1 : (D f).2.1 = W.give) (e2 : (D f).2.2 = x) (e3 : (D g).2.1 = W.give) (e4 : (D g).2.2 = x) :
    ∃ k, f < k ∧ k < g ∧ (D k).1 = (D g).1 ∧ (D k).2.1 = W.take ∧ (D k).2.2 = x := by
  have hh := h.gv g hg e3
  rw [e4] at hh
  obtain ⟨k, hk, a1, a2, a3, a4⟩ := hold_pre hh
  refine ⟨k, ?_, hk, a1, a2, a3⟩
  rcases Nat.lt_trichotomy f k with z | z | z
  · exact z
  · subst z
    exact absurd (a2.symm.trans e1) nTG
  · exact absurd ⟨e1, e2⟩ (a4 f z hl)
def I2 (D : Nat → Deed) (i : Nat) : Prop := ∀ t, (∃ L, L < i ∧ (D L).1 = t ∧ (∀ j, L < j → j < i → (D j).1 ≠ t) ∧ (csOf (pre D i)).reached t = NC D L) ∨
  ((∀ j, j < i → (D j).1 ≠ t) ∧ ((∃ f, f < i ∧ (D f).2.1 = W.fork ∧ (D f).2.2 = t ∧ (csOf (pre D i)).reached t = NC D f) ∨ ((∀ f, f < i → ¬ ((D f).2.1 = W.fork ∧ (D f).2.2 = t)) ∧ (csOf (pre D i)).reached t = fun _ => 0)))
def I3 (D : Nat → Deed) (i : Nat) : Prop := ∀ x, ((csOf (pre D i)).given x = none ∧ ∀ j, j < i → ¬ ((D j).2.1 = W.give ∧ (D j).2.2 = x)) ∨
  ∃ g, g < i ∧ (D g).2.1 = W.give ∧ (D g).2.2 = x ∧ (∀ j, g < j → j < i → ¬ ((D j).2.1 = W.give ∧ (D j).2.2 = x)) ∧ (csOf (pre D i)).given x = some (NC D g)
theorem NoF.i2 (h : NoF D n) : ∀ i, i ≤ n → I2 D i
  | 0, _ => fun t => .inr ⟨fun j hj => absurd hj (Nat.not_lt_zero _), .inr ⟨fun j hj => absurd hj (Nat.not_lt_zero _), rfl⟩⟩
  | i + 1, hi => fun t => by
    have ih := h.i2 i (by omega) t
    have er : (csOf (pre D (i + 1))).reached t = if (D i).2.1 = W.fork ∧ t = (D i).2.2 then NC D i else if t = (D i).1 then NC D i else (csOf (pre D i)).reached t := by
      rw [pre_succ, csOf_snoc]
      rfl
    rw [er]
    by_cases q : (D i).2.1 = W.fork ∧ t = (D i).2.2
    · rw [if_pos q]
      refine .inr ⟨fun j hj e => ?_, .inl ⟨i, Nat.lt_succ_self _, q.1, q.2.symm, rfl⟩⟩
      have := h.F1 (f := i) (k := j) (by omega) (by omega) q.1 q.2.symm e
      omega
    · rw [if_neg q]
      by_cases q2 : t = (D i).1
      · rw [if_pos q2]
        exact .inl ⟨i, Nat.lt_succ_self _, q2.symm, fun j h1 h2 => by omega, rfl⟩
      · rw [if_neg q2]
        rcases ih with ⟨L, hL, e1, e2, e3⟩ | ⟨e1, e2⟩
        · refine .inl ⟨L, by omega, e1, fun j h1 h2 => ?_, e3⟩
          rcases Nat.lt_succ_iff_lt_or_eq.mp h2 with z | z
          · exact e2 j h1 z
          · subst z; exact fun y => q2 y.symm
        · refine .inr ⟨fun j hj => ?_, ?_⟩
          · rcases Nat.lt_succ_iff_lt_or_eq.mp hj with z | z
            · exact e1 j z
            · subst z; exact fun y => q2 y.symm
          · rcases e2 with ⟨f, hf, a⟩ | ⟨a, b⟩
            · exact .inl ⟨f, by omega, a⟩
            · refine .inr ⟨fun f hf => ?_, b⟩
              rcases Nat.lt_succ_iff_lt_or_eq.mp hf with z | z
              · exact a f z
              · subst z; exact fun y => q ⟨y.1, y.2.symm⟩
theorem i3 : ∀ i, I3 D i
  | 0 => fun x => .inl ⟨rfl, fun j hj => absurd hj (Nat.not_lt_zero _)⟩
  | i + 1 => fun x => by
    have ih := i3 i x
    have er : (csOf (pre D (i + 1))).given x = if (D i).2.1 = W.give ∧ x = (D i).2.2 then some (NC D i) else (csOf (pre D i)).given x := by
      rw [pre_succ, csOf_snoc]
      rfl
    rw [er]
    by_cases q : (D i).2.1 = W.give ∧ x = (D i).2.2
    · rw [if_pos q]
      exact .inr ⟨i, Nat.lt_succ_self _, q.1, q.2.symm, fun j h1 h2 => by omega, rfl⟩
    · rw [if_neg q]
      have up : ∀ j, j < i + 1 → ¬ j < i → ¬ ((D j).2.1 = W.give ∧ (D j).2.2 = x) := fun j h1 h2 => by
        have : j = i := by omega
        subst this
        exact fun y => q ⟨y.1, y.2.symm⟩
      rcases ih with ⟨e1, e2⟩ | ⟨g, hg, e1, e2, e3, e4⟩
      · exact .inl ⟨e1, fun j hj => if z : j < i then e2 j z else up j hj z⟩
      · exact .inr ⟨g, by omega, e1, e2, fun j h1 h2 => if z : j < i then e3 j h1 z else up j h2 z, e4⟩
structure RF (D : Nat → Deed) (k : Nat) (t : Int) (r : Int → Nat) : Prop where
  r1 : ∀ u, r u ≤ rank D u k
  r2 : r t = rank D t k
  r3 : ∀ j, j < k → (D j).1 = t ∨ ((D j).2.1 = W.fork ∧ (D j).2.2 = t) → ∀ u, NC D j u ≤ r u
  r4 : ∀ u, r u = 0 ∨ ∃ j, j < k ∧ ((D j).1 = t ∨ ((D j).2.1 = W.fork ∧ (D j).2.2 = t)) ∧ r u = NC D j u
theorem NoF.rf (h : NoF D n) {k : Nat} (hk : k < n) (hN : IsN D k (NC D)) (t : Int) : RF D k t ((csOf (pre D k)).reached t) := by
  rcases h.i2 k (by omega) t with ⟨L, hL, e1, e2, e3⟩ | ⟨e1, ⟨f, hf, e2, e3, e4⟩ | ⟨e2, e3⟩⟩
  · rw [e3]
    refine ⟨fun u => Nat.le_trans (hN.bound L hL u) (rank_mono (by omega)), ?_, fun j hj q u => ?_, fun u => .inr ⟨L, hL, .inl e1, rfl⟩⟩
    · have := hN.own L hL
      rw [e1] at this
      have h2 : rank D t (L + 1) = rank D t L + 1 := by
        have := rank_own (D := D) (k := L)
        rw [e1] at this
        exact this
      rw [this, ← h2]
      exact (rank_none (by omega) fun j h1 h2 => e2 j (by omega) h2).symm
    · rcases q with q | ⟨q1, q2⟩
      · rcases Nat.lt_trichotomy j L with z | z | z
        · exact hN.mono hL z (.inl (q.trans e1.symm)) u
        · subst z; exact Nat.le_refl _
        · exact absurd q (e2 j z hj)
      · have hjL : j < L := h.F1 (f := j) (k := L) (by omega) (by omega) q1 q2 e1
        exact hN.mono hL hjL (.inr (.inl ⟨q1, .inl (e1.trans q2.symm)⟩)) u
  · rw [e4]
    have h0 : rank D t k = 0 := (rank_none (i := 0) (Nat.zero_le _) fun j _ hj => e1 j hj).trans rfl
    refine ⟨fun u => Nat.le_trans (hN.bound f hf u) (rank_mono (by omega)), ?_, fun j hj q u => ?_, fun u => .inr ⟨f, hf, .inr ⟨e2, e3⟩, rfl⟩⟩
    · have h1 := hN.bound f hf t
      have h2 : rank D t (f + 1) ≤ rank D t k := rank_mono (by omega)
      omega
    · rcases q with q | ⟨q1, q2⟩
      · exact absurd q (e1 j hj)
      · have : j = f := h.F2 (by omega) (by omega) q1 q2 e2 e3
        subst this
        exact Nat.le_refl _
  · rw [e3]
    have h0 : rank D t k = 0 := (rank_none (i := 0) (Nat.zero_le _) fun j _ hj => e1 j hj).trans rfl
    refine ⟨fun u => Nat.zero_le _, h0.symm, fun j hj q u => ?_, fun u => .inl rfl⟩
    rcases q with q | q
    · exact absurd q (e1 j hj)
    · exact absurd q (e2 j hj)
theorem clk_isN (h : NoF D n) : ∀ k, k ≤ n → IsN D k (NC D)
  | 0, _ => ⟨fun k hk => absurd hk (Nat.not_lt_zero _), fun k hk => absurd hk (Nat.not_lt_zero _), fun k hk => absurd hk (Nat.not_lt_zero _)⟩
  | k + 1, hk => by
    have hN := clk_isN h k (by omega)
    have hkn : k < n := by omega
    have R := h.rf hkn hN (D k).1
    have RX := h.rf hkn hN (D k).2.2
    -- what is given of the lock
    have G : ∀ g, (csOf (pre D k)).given (D k).2.2 = some g → (∀ u, g u ≤ rank D u k) ∧ (∀ j, j < k → (D j).2.1 = W.give → (D j).2.2 = (D k).2.2 → ∀ u, NC D j u ≤ g u) ∧ ∃ j, j < k ∧ (D j).2.1 = W.give ∧ (D j).2.2 = (D k).2.2 ∧ g = NC D j := fun g hg => by
      rcases i3 (D := D) k (D k).2.2 with ⟨e1, _⟩ | ⟨g0, h0, e1, e2, e3, e4⟩
      · rw [e1] at hg; cases hg
      · rw [e4] at hg
        cases hg
        refine ⟨fun u => Nat.le_trans (hN.bound g0 h0 u) (rank_mono (by omega)), fun j hj q1 q2 u => ?_, g0, h0, e1, e2, rfl⟩
        rcases Nat.lt_trichotomy j g0 with z | z | z
        · obtain ⟨c, c1, c2, c3, c4, c5⟩ := h.F3 z (by omega) q1 q2 e1 e2
          exact Nat.le_trans (hN.mono (by omega) c1 (.inr (.inr (.inr ⟨q1, c4, q2.trans c5.symm⟩))) u) (hN.mono h0 c2 (.inl c3) u)
        · subst z; exact Nat.le_refl _
        · exact absurd ⟨q1, q2⟩ (e3 j z hj)
    have G0 : (csOf (pre D k)).given (D k).2.2 = none → ∀ j, j < k → ¬ ((D j).2.1 = W.give ∧ (D j).2.2 = (D k).2.2) := fun hg => by
      rcases i3 (D := D) k (D k).2.2 with ⟨_, e2⟩ | ⟨g0, h0, e1, e2, e3, e4⟩
      · exact e2
      · rw [e4] at hg; cases hg
    -- the joined clock, ahead of the deed's own one
    have c1 : (∀ u, clk1 (csOf (pre D k)) (D k) u ≤ rank D u k) ∧ clk1 (csOf (pre D k)) (D k) (D k).1 = rank D (D k).1 k ∧
        (∀ u, (csOf (pre D k)).reached (D k).1 u ≤ clk1 (csOf (pre D k)) (D k) u) ∧ (∀ j, j < k → (D j).2.1 = W.give → (D k).2.1 = W.take → (D j).2.2 = (D k).2.2 → ∀ u, NC D j u ≤ clk1 (csOf (pre D k)) (D k) u) ∧
        (∀ u, clk1 (csOf (pre D k)) (D k) u = 0 ∨ ∃ j, j < k ∧ edge (D j) (D k) ∧ clk1 (csOf (pre D k)) (D k) u = NC D j u) := by
      have R4 : ∀ u, (csOf (pre D k)).reached (D k).1 u = 0 ∨ ∃ j, j < k ∧ edge (D j) (D k) ∧ (csOf (pre D k)).reached (D k).1 u = NC D j u := fun u => by
        rcases R.r4 u with q | ⟨j, hj, q, e⟩
        · exact .inl q
        · refine .inr ⟨j, hj, ?_, e⟩
          rcases q with q | ⟨q1, q2⟩
          · exact .inl q
          · exact .inr (.inl ⟨q1, .inl q2.symm⟩)
      unfold clk1
      by_cases t : (D k).2.1 = W.take
      · rw [if_pos t]
        cases hg : (csOf (pre D k)).given (D k).2.2 with
        | none =>
          refine ⟨R.r1, R.r2, fun u => Nat.le_refl _, fun j hj q1 _ q2 => absurd ⟨q1, q2⟩ (G0 hg j hj), R4⟩
        | some g =>
          obtain ⟨g1, g3, g0, hg0, a1, a2, a3⟩ := G g hg
          refine ⟨fun u => Nat.max_le.mpr ⟨R.r1 u, g1 u⟩, ?_, fun u => Nat.le_max_left _ _, fun j hj q1 _ q2 u => Nat.le_trans (g3 j hj q1 q2 u) (Nat.le_max_right _ _), fun u => ?_⟩
          · have h1 := R.r2
            have h2 := g1 (D k).1
            dsimp only
            rw [h1]
            exact Nat.max_eq_left h2
          · dsimp only
            rcases Nat.le_total ((csOf (pre D k)).reached (D k).1 u) (g u) with z | z
            · rw [Nat.max_eq_right z]
              exact .inr ⟨g0, hg0, .inr (.inr (.inr ⟨a1, t, a2⟩)), by rw [a3]⟩
            · rw [Nat.max_eq_left z]
              exact R4 u
      · rw [if_neg t]
        exact ⟨R.r1, R.r2, fun u => Nat.le_refl _, fun j hj q1 q2 => absurd q2 t, R4⟩
    obtain ⟨a1, a2, a3, a4, a5⟩ := c1
    have c2 : clk2 (csOf (pre D k)) (D k) (D k).1 = rank D (D k).1 k ∧ (∀ u, clk1 (csOf (pre D k)) (D k) u ≤ clk2 (csOf (pre D k)) (D k) u) ∧
        ((D k).2.1 = W.wait → ∀ u, (csOf (pre D k)).reached (D k).2.2 u ≤ clk2 (csOf (pre D k)) (D k) u) ∧ (∀ u, clk2 (csOf (pre D k)) (D k) u = 0 ∨ ∃ j, j < k ∧ edge (D j) (D k) ∧ clk2 (csOf (pre D k)) (D k) u = NC D j u) := by
      unfold clk2
      by_cases t : (D k).2.1 = W.wait
      · rw [if_pos t]
        refine ⟨?_, fun u => Nat.le_max_left _ _, fun _ u => Nat.le_max_right _ _, fun u => ?_⟩
        · have h2 := RX.r1 (D k).1
          skip
          rw [a2]
          exact Nat.max_eq_left h2
        · skip
          rcases Nat.le_total (clk1 (csOf (pre D k)) (D k) u) ((csOf (pre D k)).reached (D k).2.2 u) with z | z
          · rw [Nat.max_eq_right z]
            rcases RX.r4 u with q | ⟨j, hj, q, e⟩
            · exact .inl q
            · refine .inr ⟨j, hj, ?_, e⟩
              rcases q with q | ⟨q1, q2⟩
              · exact .inr (.inr (.inl ⟨t, q.symm⟩))
              · exact .inr (.inl ⟨q1, .inr ⟨t, q2.symm⟩⟩)
          · rw [Nat.max_eq_left z]
            exact a5 u
      · rw [if_neg t]
        exact ⟨a2, fun u => Nat.le_refl _, fun q => absurd q t, a5⟩
    obtain ⟨b1, b2, b3, b4⟩ := c2
    have own : NC D k (D k).1 = rank D (D k).1 k + 1 := by
      show (if (D k).1 = (D k).1 then _ else _) = _
      rw [if_pos rfl, b1]
    have oth : ∀ u, u ≠ (D k).1 → NC D k u = clk2 (csOf (pre D k)) (D k) u := fun u hu => by
      show (if u = (D k).1 then _ else _) = _
      rw [if_neg hu]
    refine ⟨fun i hi => ?_, fun i hi u hu j hj e => ?_, fun i hi u hu => ?_⟩
    · rcases Nat.lt_succ_iff_lt_or_eq.mp hi with z | z
      · exact hN.own i z
      · subst z; exact own
    · rcases Nat.lt_succ_iff_lt_or_eq.mp hi with z | z
      · exact hN.ge i z u hu j hj e
      · subst z
        rw [oth u hu]
        have RR : (D j).1 = (D i).1 ∨ ((D j).2.1 = W.fork ∧ (D j).2.2 = (D i).1) → NC D j u ≤ clk2 (csOf (pre D i)) (D i) u := fun q => Nat.le_trans (R.r3 j hj q u) (Nat.le_trans (a3 u) (b2 u))
        rcases e with q | ⟨q, q'⟩ | ⟨q, q'⟩ | ⟨q, q', q''⟩
        · exact RR (.inl q)
        · rcases q' with q' | ⟨q1, q2⟩
          · exact RR (.inr ⟨q, q'.symm⟩)
          · exact Nat.le_trans (RX.r3 j hj (.inr ⟨q, q2.symm⟩) u) (b3 q1 u)
        · exact Nat.le_trans (RX.r3 j hj (.inl q'.symm) u) (b3 q u)
        · exact Nat.le_trans (a4 j hj q q' q'' u) (b2 u)
    · rcases Nat.lt_succ_iff_lt_or_eq.mp hi with z | z
      · exact hN.le i z u hu
      · subst z
        rw [oth u hu]
        exact b4 u
end
end RC
namespace RC
open PySem L2
def vecV (m : Nat) (c : Int → Nat) : List V := (List.range m).map fun (i : Nat) => V.int ((c (i : Int) : Nat) : Int)
theorem vecV_len (m : Nat) (c : Int → Nat) : (vecV m c).length = m := by unfold vecV; simp
theorem vecV_get {m : Nat} {c : Int → Nat} {i : Nat} (h : i < m) : (vecV m c)[i]? = some (V.int ((c (i : Int) : Nat) : Int)) := by
  unfold vecV
  rw [List.getElem?_map, List.getElem?_range h]
  rfl
theorem vecV_of {m : Nat} {c : Int → Nat} {i : Nat} {v : V} (h : (vecV m c)[i]? = some v) : i < m ∧ v = V.int ((c (i : Int) : Nat) : Int) := by
  have hi : i < m := by
    have := (List.getElem?_eq_some_iff.mp h).1
    rwa [vecV_len] at this
  rw [vecV_get hi] at h
  exact ⟨hi, (Option.some.inj h).symm⟩
theorem vecV_set {m : Nat} {c : Int → Nat} {t : Nat} (h : t < m) (x : Nat) : (vecV m c).set t (V.int (x : Int)) = vecV m (fun u => if u = (t : Int) then x else c u) := by
  refine List.ext_getElem? fun i => ?_
  rw [List.getElem?_set]
  by_cases e : t = i
  · subst e
    rw [if_pos rfl, vecV_get h, vecV_len, if_pos h, if_pos rfl]
  · rw [if_neg e]
    by_cases hi : i < m
    · rw [vecV_get hi, vecV_get hi, if_neg (by omega)]
    · rw [List.getElem?_eq_none (by rw [vecV_len]; omega), List.getElem?_eq_none (by rw [vecV_len]; omega)]
theorem vecV_zero (m : Nat) : vecV m (fun _ => 0) = List.replicate m (V.int 0) := by
  refine List.ext_getElem? fun i => ?_
  by_cases h : i < m
  · rw [vecV_get h, List.getElem?_replicate, if_pos h]; rfl
  · rw [List.getElem?_eq_none (by rw [vecV_len]; omega), List.getElem?_eq_none (by simp; omega)]
theorem vecV_congr {m : Nat} {c d : Int → Nat} (h : ∀ i : Nat, i < m → c i = d i) : vecV m c = vecV m d := by
  unfold vecV
  refine List.map_congr_left fun i hi => ?_
  rw [h i (by simpa using hi)]
def dAt (ds : List Deed) (k : Nat) : Deed := ds.getD k (0, "", 0)
theorem dAt_get {ds : List Deed} {k : Nat} (h : k < ds.length) : ds[k]? = some (dAt ds k) := by
  unfold dAt
  rw [List.getD_eq_getElem?_getD]
  simp [h]
theorem dAt_of {ds : List Deed} {k : Nat} {d : Deed} (h : ds[k]? = some d) : dAt ds k = d := by
  unfold dAt
  rw [List.getD_eq_getElem?_getD, h]
  rfl
theorem pre_dAt (ds : List Deed) : ∀ {k : Nat}, k ≤ ds.length → pre (dAt ds) k = ds.take k
  | 0, _ => by simp [pre]
  | k + 1, h => by
    rw [pre_succ, pre_dAt ds (by omega), List.take_add_one, dAt_get (by omega)]
    rfl
theorem nof_fault {m : Int} {ds : List Deed} (h : Fault m ds none) : NoF (dAt ds) ds.length := nof_of (m := m) fun k hk => by
  rw [pre_dAt ds (by omega)]
  exact h k _ (dAt_get hk)
theorem isN_of {m : Int} {ds : List Deed} (h : Fault m ds none) : IsN (dAt ds) ds.length (NC (dAt ds)) := clk_isN (nof_fault h) _ (Nat.le_refl _)
theorem form_of {m : Int} {ds : List Deed} (h : Fault m ds none) {k : Nat} (hk : k < ds.length) : (0 ≤ (dAt ds k).1 ∧ (dAt ds k).1 < m) ∧ 0 ≤ (dAt ds k).2.2 ∧ ((dAt ds k).2.1 = W.fork ∨ (dAt ds k).2.1 = W.wait → (dAt ds k).2.2 < m) := by
  have f := h k _ (dAt_get hk)
  unfold faultOf at f
  rw [Option.or_eq_none_iff] at f
  have f1 := f.1
  unfold form at f1
  by_cases z1 : ¬ (0 ≤ (dAt ds k).1 ∧ (dAt ds k).1 < m)
  · rw [if_pos z1] at f1; cases f1
  · rw [if_neg z1] at f1
    refine ⟨Classical.byContradiction z1, ?_⟩
    split at f1
    · cases f1
    · split at f1
      · cases f1
      · next q =>
        refine ⟨Int.not_lt.mp fun z => q (.inl z), fun z => Int.not_le.mp fun y => q (.inr ⟨z, y⟩)⟩
end RC
namespace L2
open PySem
section
variable {tt : TT} {σ : St} {H : Hp} {D : Ends} {rest body els : TS}
theorem PuT.ifsJ {c : Prop} [Decidable c] (J : St → Hp → Prop) (h : PuT tt σ H (decide c)) (h1 : c → ∀ N : St → Hp → Prop, (∀ σ' H', J σ' H' → N σ' H') → body { D with nx := N } σ H) (h2 : ¬ c → J σ H) (hr : ∀ σ' H', J σ' H' → rest D σ' H') : tSeq (tIfS tt body tNext) rest D σ H :=
  h.ifs (fun z => h1 z _ hr) fun z => hr _ _ (h2 z)
end
end L2
namespace L2
open PySem
theorem setComp_range {n : Nat} {fr : List Nat} {ta : TA} {tt : TT} {te : TE} {σ : St} {H : Hp} {j : Nat} {rest : TS} {De : Ends} (Pv : Addr → Nat → List V → Hp → Prop) (h : ∀ Q' : List V → Hp → Prop, Q' [.int (n : Int)] H → ta σ H Q') (hn : n ≤ 1000) (h0 : ∀ D, H D = none → Pv D 0 [] (upd H D (.lst [])))
    (step : ∀ D, H D = none → ∀ i ys H' (N : St → Hp → Prop), i < n → Pv D i ys H' → H' D = some (.lst ys) → ys.length < sizeLine →
      (∀ v H5, Pv D (i + 1) (ys ++ [v]) (upd H5 D (.lst (ys ++ [v]))) → N (some (.int (i : Int)) :: frV fr σ) (upd H5 D (.lst (ys ++ [v])))) → (∀ H5, H5 D = some (.lst ys) → Pv D (i + 1) ys H5 → N (some (.int (i : Int)) :: frV fr σ) H5) →
      tt (some (.int (i : Int)) :: frV fr σ) H' fun b H4 => if b = true then te (some (.int (i : Int)) :: frV fr σ) H4 fun v H5 => ∃ ys, H5 D = some (.lst ys) ∧ ys.length < sizeLine ∧ N (some (.int (i : Int)) :: frV fr σ) (upd H5 D (.lst (ys ++ [v]))) else N (some (.int (i : Int)) :: frV fr σ) H4)
    (fin : ∀ D, H D = none → ∀ ys H', Pv D n ys H' → H' D = some (.lst ys) → rest De (σ.set j (some (.ref D))) H') : tSeq (tAsg (tComp 1 fr (iRng1 ta) (gName 0) tt te) (gName j)) rest De σ H := by
  show tComp 1 fr (iRng1 ta) (gName 0) tt te σ H fun x H1 => rest De (σ.set j (some x)) H1
  exact tComp_range (Q := fun x H1 => rest De (σ.set j (some x)) H1) Pv h hn h0 step fin
theorem Same.put2 {H0 H : Hp} {a : Addr} {o : HO} (s : Same H0 H) (h : H0 a = none) : Same H0 (upd H a o) := fun b u e => by rw [upd_ne (ne_of_none e h)]; exact s b u e
end L2
namespace L2
open PySem
end L2
namespace RC
open PySem L2
noncomputable def bfb (D : Nat → Deed) (k j : Nat) : Bool := @decide (Bf D k j) (Classical.propDecidable _)
theorem bfb_iff {D : Nat → Deed} {k j : Nat} : bfb D k j = true ↔ Bf D k j := by
  unfold bfb
  exact @decide_eq_true_iff _ (Classical.propDecidable _)
theorem bfb_false {D : Nat → Deed} {k j : Nat} : bfb D k j = false ↔ ¬ Bf D k j := by
  rw [← bfb_iff]
  cases bfb D k j <;> simp
theorem Deeds.ref {H : Hp} {xs : List V} {ds : List Deed} (h : Deeds H xs ds) {i : Nat} (hi : i < ds.length) : ∃ r, xs[i]? = some (.ref r) ∧ H r = some (.tup [.int (dAt ds i).1, .str (dAt ds i).2.1, .int (dAt ds i).2.2]) := h.at (dAt_get hi)
end RC
namespace L2
open PySem PySem.Spec PyProof.Rows
theorem ints_of_vals : ∀ {ns : List Int} {its : List Value}, Vals (ns.map V.int) its → IntsAre its ns
  | [], _, .nil => .nil
  | n :: ns, _, .cons r t => by
    obtain ⟨tk, rfl⟩ := r
    exact .cons n tk (ints_of_vals t)
theorem vals_of_ints : ∀ {ns : List Int} {its : List Value}, IntsAre its ns → Vals (ns.map V.int) its
  | _, _, .nil => .nil
  | _, _, .cons n t h => .cons ⟨t, rfl⟩ (vals_of_ints h)
theorem call_sorted {X : Cx} : CallR X (.builtin "sorted") (fun xs H Q => ∃ (p : Addr) (ns : List Int), xs = [.ref p] ∧ SqL X.K H p (ns.map V.int) ∧ ns.length < 64 ∧
    ∀ (l : Addr) (ns' : List Int), ns'.Perm ns → ns'.Pairwise (· ≤ ·) → H l = none → Q (.ref l) (upd H l (.lst (ns'.map V.int)))) := by
  intro pins s σ H xs us Q I r h
  obtain ⟨p, ns, rfl, hq, h64, q⟩ := h
  obtain ⟨u, rfl, rx⟩ := vals1 r
  cases rx
  obtain ⟨its, rv, pl, hz⟩ := I.list hq
  have hl : its.length = ns.length := by rw [← rv.length, List.length_map]
  refine sorted_ints pl.isList (ints_of_vals rv) (by omega) fun out ns' hI hp hs => ?_
  obtain ⟨e, he⟩ := sortedAll_at s.heap its out
  have hn : H (s.heap.objs.size + 1) = none := I.hok.fresh (Nat.le_succ _)
  refine ⟨.ref (s.heap.objs.size + 1), _, I.laid (t' := s.toks) (a := s.heap.objs.size + 1) (o := .lst (ns'.map V.int)) (fun b o e => sortedAll_old e) (Nat.le_succ _) ?_, rfl, q _ ns' hp hs hn⟩
  refine ⟨?_, out.toList, e, vals_of_ints hI, he⟩
  have h1 := hp.length_eq
  rw [List.length_map, h1]
  have : (64 : Nat) ≤ sizeLine := by decide
  omega
end L2
namespace L2
open PySem PySem.Spec PyProof.Rows
theorem call_rng1 {X : Cx} : CallR X (.type "range") (fun xs H Q => ∃ n : Int, xs = [.int n] ∧ ∀ r, H r = none → Q (.ref r) (upd H r (.rng 0 n))) := by
  intro pins s σ H xs us Q I r h
  obtain ⟨n, rfl, q⟩ := h
  obtain ⟨u, rfl, rx⟩ := vals1 r
  obtain ⟨t, rfl⟩ := rx
  exact call_range_1 ⟨.ref s.heap.objs.size, _, I.laid (o := .rng 0 n) (t' := s.toks + 1 + 1) (fun b o e => Heap.get?_push_of_some _ e) (Nat.le_refl _) ⟨_, _, _, Heap.get?_push_size _ rfl⟩, rfl, q _ (I.hok.fresh (Nat.le_refl _))⟩
theorem vals_items : ∀ (n : Nat) (acc : List Value) (f : Nat → Int), acc.length = n → (∀ j v, acc[j]? = some v → ∃ t, v = Value.int (f j) t) → Vals ((List.range n).map fun i => V.int (f i)) acc := by
  intro n
  induction n with
  | zero =>
    intro acc f hl _
    have : acc = [] := List.length_eq_zero_iff.mp hl
    subst this
    exact .nil
  | succ n ih =>
    intro acc f hl h
    match acc, hl with
    | v :: r, hl =>
      rw [List.range_succ_eq_map, List.map_cons, List.map_map]
      refine .cons (h 0 v rfl) ?_
      exact ih r (fun i => f (i + 1)) (by simpa using hl) fun j u e => h (j + 1) u e
theorem call_list_rng {X : Cx} (hc : X.calm = true) : CallR X (.type "list") (fun xs H Q => ∃ (p : Addr) (lo : Int) (n : Nat), xs = [.ref p] ∧ H p = some (.rng lo (lo + n)) ∧ n ≤ 1000 ∧ -(2 ^ 61) ≤ lo ∧ lo < 2 ^ 61 ∧
    ∀ l, H l = none → Q (.ref l) (upd H l (.lst ((List.range n).map fun i : Nat => V.int (lo + (i : Int)))))) := by
  intro pins s σ H xs us Q I r h
  obtain ⟨p, lo, n, rfl, hp, hn, h1, h2, q⟩ := h
  obtain ⟨u, rfl, rx⟩ := vals1 r
  cases rx
  obtain ⟨t, t2, t3, e⟩ := (show ObjOk X.prog X.w H s.heap p (.rng lo (lo + n)) from I.hok p _ hp)
  refine call_list_range (n := n) (I.ok.hd hc) e (small_one (by omega) (by omega) (by omega) (by omega)) (by rw [rangeSize_one]; split <;> omega) (Nat.le_trans hn (by decide)) fun h' tk acc c' hk he ⟨hl, hi⟩ => ?_
  refine ⟨.ref s.heap.objs.size, _, I.laid (o := .lst ((List.range n).map fun i : Nat => V.int (lo + (i : Int)))) (t' := tk) hk (Nat.le_refl _) ⟨?_, acc.toList, c', vals_items n acc.toList (fun i => lo + (i : Int)) (by simpa using hl) fun j v e => ?_, he⟩, rfl, q _ (I.hok.fresh (Nat.le_refl _))⟩
  · rw [List.length_map, List.length_range]
    exact Nat.le_trans hn (by decide)
  · obtain ⟨t, e'⟩ := hi j v (by simpa using e)
    exact ⟨t, by rw [e']; simp⟩
end L2
namespace L2
open PySem PySem.Spec PyProof.Rows
def rIndex : V → List V → Hp → VK → Prop := fun x vs H Q => ∃ (l : Addr) (ns : List Int) (k : Int) (j : Nat), x = .ref l ∧ vs = [.int k] ∧ H l = some (.lst (ns.map V.int)) ∧ ns[j]? = some k ∧ (∀ i, i < j → ns[i]? ≠ some k) ∧ Q (.int (j : Int)) H
def eqI (k : Int) : Value → Bool
  | .int a _ => a == k
  | _ => false
theorem mt_index {X : Cx} : MtM X "list.index" rIndex := by
  intro pins s σ H x vs v us Q I rx rv h
  obtain ⟨l, ns, k, j, rfl, rfl, hH, hj, hno, q⟩ := h
  cases rx
  obtain ⟨u, rfl, ru⟩ := rv.one
  obtain ⟨t, rfl⟩ := ru
  obtain ⟨z, its, n, r, hl, e⟩ := I.lstM hH
  have hjl : j < ns.length := (List.getElem?_eq_some_iff.mp hj).1
  have hl' : its.length = ns.length := by rw [← hl, List.length_map]
  have at_ : ∀ (i : Nat) (hi : i < its.toArray.size), ∃ a t', its.toArray[i] = Value.int a t' ∧ ns[i]? = some a := fun i hi => by
    have hi' : i < its.length := by simpa using hi
    have hn : i < ns.length := by omega
    obtain ⟨w', ew, t', rw'⟩ := r.get (i := i) (x := V.int ns[i]) (by rw [List.getElem?_map]; simp [hn])
    refine ⟨ns[i], t', ?_, by simp [hn]⟩
    rw [List.getElem?_eq_getElem hi'] at ew
    rw [← rw']
    simpa using Option.some.inj ew
  have all : ∀ y, y ∈ its.toArray → PySem.MeetsSeq.EqGives y (.int k t) (eqI k y) := fun y hy => by
    obtain ⟨i, hi, rfl⟩ := Array.getElem_of_mem hy
    obtain ⟨a, t', ea, _⟩ := at_ i hi
    rw [ea]
    exact PySem.MeetsSeq.EqGives.int a k t' t
  have sz : its.toArray.size = ns.length := by simpa using hl'
  have z24 : sizeLine < 2 ^ 62 := by decide
  refine call_meets F.slot_list_index ⟨_, e, rfl⟩ F.entry_list_index (F.args_list_index_2 _ _) (PySem.MeetsSeq.list_index l its.toArray n (.int k t) (eqI k) all j (by omega) (by rw [List.length_map] at z; omega) ?_ ?_) ⟨e, ?_⟩
  · obtain ⟨a, t', ea, en⟩ := at_ j (by omega)
    rw [ea]
    rw [hj] at en
    cases en
    show (k == k) = true
    simp
  · intro i hi hij
    obtain ⟨a, t', ea, en⟩ := at_ i hi
    rw [ea]
    show (a == k) = false
    simp only [beq_eq_false_iff_ne]
    intro z
    subst z
    exact hno i hij en
  · exact ⟨.int (j : Int), H, I.tok _, ⟨_, rfl⟩, q⟩
end L2
namespace PySem
open PySem.Spec PyProof.Rows
section
variable {prog : Program} {w : World} {A : Around} {E : Value → Shared → Prop} {s : Shared}
theorem sub_ri_reversed : isSubtype (.type "range_iterator") (.type "reversed") = pure false := by rw [isSubtype_type]; kernel_rfl
theorem call_range_reversed {r : Addr} {a b c k : Int} {t u v : Tok} {Q : Value → Shared → Prop} (hr : IsRange s.heap r a b c t u v) (hk : Builtin.Range.rangeSize a b c = k)
    (hs : (Builtin.Range.rangeFitsLong a && Builtin.Range.rangeFitsLong b && Builtin.Range.rangeFitsLong c && Builtin.Range.rangeFitsLong (-c) && Builtin.Range.rangeFitsLong (a - c) && Builtin.Range.rangeFitsLong k) = true)
    (h : Q (.ref s.heap.objs.size) { s with heap := s.heap.push { cls := .type "range_iterator", data := .fields #[rawInt (a + (k - 1) * c), rawInt k, rawInt (-c)] } }) : wpAny (model prog w) A (call (.builtin "range.__reversed__") [.ref r]) Q E s := by
  refine wpAny_call_entry F.slot_range_reversed ⟨_, hr, rfl⟩ F.entry_range_reversed ?_ (F.args_range_reversed_1 _)
  unfold Builtin.«range.__reversed__»
  refine wpAny_bind (wpAny_of_eq (a := Value.ref r) rfl ?_)
  have LF : ∀ {Q' : Int × Int × Int → Shared → Prop} {E' : Value → Shared → Prop} {A' : Around}, Q' (a, b, c) s → wpAny (model prog w) A' (Builtin.Range.rangeFields (.ref r)) Q' E' s := fun {Q' E' A'} q => by
    unfold Builtin.Range.rangeFields
    refine wpAny_bind (wpAny_field hr rfl rfl ?_)
    refine wpAny_bind (wpAny_pure ?_)
    refine wpAny_bind (wpAny_field hr rfl rfl ?_)
    refine wpAny_bind (wpAny_pure ?_)
    refine wpAny_bind (wpAny_field hr rfl rfl ?_)
    refine wpAny_bind (wpAny_pure ?_)
    exact wpAny_pure q
  refine wpAny_bind (LF ?_)
  dsimp only
  rw [hk, hs]
  refine wpAny_bind (wpAny_newObj_type (wpAny_pure ⟨_, rfl, h⟩))
theorem code_reversed_rng {r : Addr} {a b c k : Int} {t u v : Tok} {Q₁ : Value → Shared → Prop} (hr : IsRange s.heap r a b c t u v) (hk : Builtin.Range.rangeSize a b c = k)
    (hs : (Builtin.Range.rangeFitsLong a && Builtin.Range.rangeFitsLong b && Builtin.Range.rangeFitsLong c && Builtin.Range.rangeFitsLong (-c) && Builtin.Range.rangeFitsLong (a - c) && Builtin.Range.rangeFitsLong k) = true)
    (h : Q₁ (.ref s.heap.objs.size) { s with heap := s.heap.push { cls := .type "range_iterator", data := .fields #[rawInt (a + (k - 1) * c), rawInt k, rawInt (-c)] } }) :
    codeAny (model prog w) A (.call (.builtin "reversed.__new__") ⟨[.type "reversed", .ref r], []⟩) (wants Q₁ E) s := by
  refine codeAny_of_tree ?_
  show wpAny _ A.in1 (do checkBuiltinCall "reversed.__new__" ⟨[.type "reversed", .ref r], []⟩; again (.builtin "reversed.__new__" ⟨[.type "reversed", .ref r], []⟩)) _ _ s
  refine wpAny_bind (wpAny_of_eq (F.newCall_reversed_1 _) (wpAny_pure ⟨plainId_quiet F.plain_reversed_new _, codeAny_builtin F.entry_reversed_new ?_⟩))
  rw [Around.under_plainId F.plain_reversed_new _]
  unfold Builtin.«reversed.__new__»
  refine wpAny_bind (wpAny_of_eq (newClass_reversed _) ?_)
  try dsimp only
  refine wpAny_bind (wpAny_of_eq (a := ()) (by first | rfl | kernel_rfl) ?_)
  refine wpAny_bind (wpAny_of_eq (a := ()) (by first | rfl | kernel_rfl) ?_)
  try dsimp only
  refine wpAny_bind (wpAny_specialOf (T := "range") ⟨_, hr, rfl⟩ F.slot_range_reversed.lookup ?_)
  try dsimp only
  refine wpAny_bind (wpAny_of_eq (F.slot_range_reversed.bind _) ?_)
  try dsimp only
  first
  | rw [if_neg (show ¬ ((Value.builtin "range.__reversed__" == Value.none) = true) from Bool.false_ne_true)]
  | (show wpAny _ _ (if (Value.builtin "range.__reversed__" == Value.none) = true then _ else _) _ _ _; rw [if_neg (show ¬ ((Value.builtin "range.__reversed__" == Value.none) = true) from Bool.false_ne_true)])
  refine wpAny_bind (wpAny_rule ?_)
  refine wpAny_bind (m := runValue (.call (.builtin "range.__reversed__") ⟨[.ref r], []⟩)) (show wpAny _ _ (call (.builtin "range.__reversed__") [.ref r]) _ _ _ from call_range_reversed hr hk hs ?_)
  first
  | exact wpAny_pure h
  | exact wpAny_bind (wpAny_pure (wpAny_pure h))
theorem call_reversed_rng {r : Addr} {a b c k : Int} {t u v : Tok} {Q : Value → Shared → Prop} (hr : IsRange s.heap r a b c t u v) (hk : Builtin.Range.rangeSize a b c = k)
    (hs : (Builtin.Range.rangeFitsLong a && Builtin.Range.rangeFitsLong b && Builtin.Range.rangeFitsLong c && Builtin.Range.rangeFitsLong (-c) && Builtin.Range.rangeFitsLong (a - c) && Builtin.Range.rangeFitsLong k) = true)
    (h : Q (.ref s.heap.objs.size) { s with heap := s.heap.push { cls := .type "range_iterator", data := .fields #[rawInt (a + (k - 1) * c), rawInt k, rawInt (-c)] } }) : wpAny (model prog w) A (call (.type "reversed") [.ref r]) Q E s := by
  refine callType_other (U := "range_iterator") (Q₁ := fun obj s₁ => obj = .ref s.heap.objs.size ∧ s₁ = { s with heap := s.heap.push { cls := .type "range_iterator", data := .fields #[rawInt (a + (k - 1) * c), rawInt k, rawInt (-c)] } }) (by decide +kernel) F.create_reversed ⟨_, _, F.mro_reversed⟩ F.made_reversed sub_ri_reversed (F.typeCall_reversed_1 _) (code_reversed_rng hr hk hs ⟨rfl, rfl⟩) ?_
  rintro obj s₁ ⟨rfl, rfl⟩
  exact ⟨⟨_, Heap.get?_push_size _ rfl, rfl⟩, h⟩
end
end PySem
namespace L2
open PySem PySem.Spec PyProof.Rows
def Itd (hi : Int) (n : Nat) : It := ⟨fun i _ => i < n, fun i H x H' => H' = H ∧ x = .int (hi - i), fun i _ => n ≤ i⟩
theorem turn_down {P : Program} {w : World} {K : PySem.W.Frag} {tg : Expr} (it : Addr) (hi : Int) (n : Nat) : Turn P w K tg (Itd hi n) [it] it (fun i h => IsRangeIter h it (hi + (i : Nat) * (-1)) ((n : Int) - (i : Nat)) (-1)) where
  mem := by simp
  obj := fun i h st b hb => by
    have e : b = it := by simpa using hb
    subst e
    exact ⟨_, st, fun v z => by
      have z' : Data.fields _ = Data.cell v := z
      cases z'⟩
  keep := fun i h h' st k => k it (by simp) _ st
  item := by
    intro X hP hw hK hc i pins s σ H E I hf st hg
    subst hP hw hK
    obtain ⟨f0, f1, f2, f3, f4, f5⟩ := hf it (by simp)
    have W := Walks.range (prog := X.prog) (w := X.w) (I.ok.hd hc) it hi (-1) n
    refine W.item i s _ _ hg st fun v h' tk hv st' kk => ?_
    obtain ⟨t, rfl⟩ := hv
    have I1 : Inv X pins σ H { s with heap := h', toks := tk } := I.turned (fun b o hb e => kk b o (by simpa using hb) e) f0 f1 f3 f4 f5
    refine ⟨_, rfl, go_of (s := { s with heap := h', toks := tk }) (n := "range_iterator") st' rfl rfl (by decide) ⟨.int (hi - i), H, I1, ⟨t, ?_⟩, ⟨rfl, rfl⟩, st', fun b hb => (hf b hb).1⟩⟩
    congr 1
    omega
  done := by
    intro X hP hw hK hc i pins s σ H E I hf st hg
    subst hP hw hK
    obtain ⟨f0, f1, f2, f3, f4, f5⟩ := hf it (by simp)
    exact wpAny_pyNext_range_end (I.ok.hd hc) st (by have : n ≤ i := hg; omega) fun h' eb => ⟨rfl, I.turned (t' := s.toks) (fun b o hb e => eb b o hb e) f0 f1 f3 f4 f5⟩
  self := fun _ _ _ _ _ st h => wpAny_pyIter_rangeiter st h
theorem boot_reversed : bootBuiltins "reversed" = some (.type "reversed") := by decide +kernel
def iDown (ta : TA) : TI := fun σ H R => ta σ H fun vs H1 => ∃ (r : Addr) (n : Nat), vs = [.ref r] ∧ H1 r = some (.rng 0 (n : Int)) ∧ n ≤ 1000 ∧ R (Itd ((n : Int) - 1) n) H1
theorem fits1000 {n : Nat} (h : n ≤ 1000) : (Builtin.Range.rangeFitsLong 0 && Builtin.Range.rangeFitsLong (n : Int) && Builtin.Range.rangeFitsLong 1 && Builtin.Range.rangeFitsLong (-1) && Builtin.Range.rangeFitsLong (0 - 1) && Builtin.Range.rangeFitsLong (n : Int)) = true := by
  have e : Builtin.Range.rangeFitsLong (n : Int) = true := by
    unfold Builtin.Range.rangeFitsLong
    rw [Bool.and_eq_true, decide_eq_true_iff, decide_eq_true_iff]
    omega
  rw [e]
  decide +kernel
theorem pi_down {X : Cx} {tg a : Expr} {ta : TA} {p pos : Pos} (hg : Gl X "reversed") (hm : X.mg "reversed" = none) (ha : PA X [a] ta) (hs : starEach [a] X.env = [(false, eval a X.env)] := by rfl) : PI X tg (.Call (.Name "reversed" p) [a] [] pos) (iDown ta) := by
  intro pins s σ H R I h
  refine Call_ (ld_blt I hg hm boot_reversed (PyProof.Rows.callWith_type1 (thn (ha pos pins s σ H _ I h) fun us s1 ⟨vs, H1, I1, r1, q1⟩ => ?_) hs rfl))
  obtain ⟨r, n, e, hH, hn, q⟩ := q1
  subst e
  obtain ⟨u, rfl, ru⟩ := vals1 r1
  cases ru
  obtain ⟨t, t2, t3, e⟩ := (show ObjOk X.prog X.w H1 s1.heap r (.rng 0 (n : Int)) from I1.hok r _ hH)
  refine call_reversed_rng (k := (n : Int)) e (by rw [rangeSize_one]; split <;> omega) (fits1000 hn) ?_
  generalize ho : ({ cls := .type "range_iterator", data := .fields #[rawInt (0 + ((n : Int) - 1) * 1), rawInt (n : Int), rawInt (-1)] } : Obj) = ob
  have I2 : Inv X pins σ H1 { s1 with heap := s1.heap.push ob } := I1.kept (t' := s1.toks) fun b o e => Heap.get?_push_of_some _ e
  have st : IsRangeIter (s1.heap.push ob) s1.heap.objs.size ((n : Int) - 1 + ((0 : Nat) : Int) * (-1)) ((n : Int) - ((0 : Nat) : Int)) (-1) := by
    have e1 : (n : Int) - 1 + ((0 : Nat) : Int) * (-1) = 0 + ((n : Int) - 1) * 1 := by omega
    have e2 : (n : Int) - ((0 : Nat) : Int) = (n : Int) := by omega
    show (s1.heap.push ob).get? s1.heap.objs.size = _
    rw [e1, e2, ho]
    exact Heap.get?_push_size _ (by rw [← ho]; rfl)
  refine wpAny_pyIter_rangeiter st ?_
  refine ⟨s1.heap.objs.size, [s1.heap.objs.size], _, _, H1, rfl, I2, turn_down _ ((n : Int) - 1) n, st, fun b hb => ?_, q⟩
  have e' : b = s1.heap.objs.size := by simpa using hb
  subst e'
  exact I1.fpOk (Nat.le_refl _) (I1.hok.fresh (Nat.le_refl _))
end L2
namespace L2
open PySem PySem.Spec PyProof.Rows
theorem for_down {hi : Int} {n : Nat} {g : TG} {tb : TS} {D : Ends} {σ : St} {H : Hp} (Pv : Nat → St → Hp → Prop) (h0 : Pv 0 σ H)
    (hs : ∀ i σ H, i < n → Pv i σ H → g (.int (hi - i)) σ H fun σ2 H2 => tb { D with nx := Pv (i + 1), ct := Pv (i + 1), bk := D.nx } σ2 H2) (hd : ∀ σ H, Pv n σ H → D.nx σ H) :
    ∃ W : Nat → Nat → St → Hp → Prop, (∃ m, W 0 m σ H) ∧ ∀ i m σ H, W i m σ H →
      ((Itd hi n).stop i H ∧ D.nx σ H) ∨ ((Itd hi n).go i H ∧ ∃ N : St → Hp → Prop, (∀ σ' H', N σ' H' → ∃ m', m' < m ∧ W (i + 1) m' σ' H') ∧ ∀ x H', (Itd hi n).yld i H x H' → g x σ H' fun σ2 H2 => tb { D with nx := N, ct := N, bk := D.nx } σ2 H2) := by
  refine ⟨fun i m σ H => m = n - i ∧ i ≤ n ∧ Pv i σ H, ⟨n, by simp, Nat.zero_le _, h0⟩, ?_⟩
  rintro i m σ H ⟨rfl, hi', p⟩
  by_cases hlt : i < n
  · refine .inr ⟨hlt, Pv (i + 1), fun σ' H' p' => ⟨n - (i + 1), by omega, rfl, hlt, p'⟩, fun x H' y => ?_⟩
    obtain ⟨e, y⟩ := y
    subst e y
    exact hs i σ H' hlt p
  · have : i = n := by omega
    subst this
    exact .inl ⟨Nat.le_refl _, hd σ H p⟩
theorem bRng : bootBuiltins "range" = some (.type "range") := by decide +kernel
end L2
namespace K
open PySem L2 RC
theorem none_updS {H : Hp} {a b : Addr} {o : HO} (h : upd H b o a = none) : a ≠ b ∧ H a = none := by
  by_cases e : a = b
  · rw [e, upd_same] at h; cases h
  · rw [upd_ne e] at h; exact ⟨e, h⟩
theorem tIf_pick {t : TT} {ta tb : TE} {σ : St} {H : Hp} {Q : VK} {v : V} {c : Prop} [Decidable c] (h : PuT t σ H (decide c)) (h1 : c → ∀ Q' : VK, Q' v H → ta σ H Q') (h2 : ¬ c → ∀ Q' : VK, Q' v H → tb σ H Q') (q : Q v H) : tIf t ta tb σ H Q := h _ (by
  by_cases z : c
  · rw [decide_eq_true z]; exact iteT (h1 z Q q)
  · rw [decide_eq_false z]; exact iteF (h2 z Q q))
def lastW (D : Nat → Deed) (x : Int) : Nat → Option Nat
  | 0 => none
  | k + 1 => if (D k).2.1 = W.write ∧ (D k).2.2 = x then some k else lastW D x k
def seenAt (D : Nat → Deed) (k : Nat) : Option Nat := if (D k).2.1 = W.read then lastW D (D k).2.2 k else none
def oN : Option Nat → V
  | none => .non
  | some k => .int (k : Int)
def seenV (D : Nat → Deed) (n : Nat) : List V := (List.range n).map fun i => oN (seenAt D i)
theorem seenV_len (D : Nat → Deed) (n : Nat) : (seenV D n).length = n := by unfold seenV; simp
theorem seenV_get {D : Nat → Deed} {n i : Nat} (h : i < n) : (seenV D n)[i]? = some (oN (seenAt D i)) := by
  unfold seenV
  rw [List.getElem?_map, List.getElem?_range h]
  rfl
theorem seenV_succ (D : Nat → Deed) (n : Nat) : seenV D (n + 1) = seenV D n ++ [oN (seenAt D n)] := by
  unfold seenV
  rw [List.range_succ, List.map_append]
  rfl
def spSeen (CR : Addr) : Sp := fun vs H Q _ => ∃ (p : Addr) (m : Int) (xs : List V) (ds : List Deed), vs = [.ref p] ∧ RowAt CR H p m xs ∧ Deeds H xs ds ∧ ds.length ≤ 60 ∧
  ∀ (r : Addr) (H' : Hp), Same H H' → H r = none → H' r = some (.lst (seenV (dAt ds) ds.length)) → Q (.ref r) H'
abbrev nSeen : List Str := ["row", "last_writes", "told", "place", "thread", "word", "thing"]
section
variable {P : Program} {w : World} {K : PySem.W.Frag} {mg : Str → Option Value} {base : Heap}
theorem scSeen : FnScope nSeen ["row"] (defScope s_seen) := ⟨rfl, rfl, rfl, by decide +kernel, rfl, by decide +kernel, by decide +kernel⟩
theorem ok_seen {f C aW aT CR fR : Addr} {fd fdR : FuncData} (F : Fun K "seen" "seen" s_seen f fd) (T : Txt K mg C aW aT) (R : TxtR K mg CR)
    (GR : FnOk P w K mg base CX0 1 fR fdR ["self"] (spRDs CR)) (bR : Binds K fdR ["self"] []) (mR : Meth K CR "deeds" fR) : FnOk P w K mg base CX0 2 f fd ["row"] (spSeen CR) := by
  refine F.ok scSeen (fun vs H Q E h => ?_) (fun cdv A outer s H vs Q E hr h => ?_)
  · obtain ⟨p, m, xs, ds, rfl, _⟩ := h
    rfl
  · obtain ⟨p, m, xs, ds, rfl, hR, hds, hlen, k⟩ := h
    have nd := scSeen.nd
    have hu := hu_of hr
    have hxl := hds.len
    refine ⟨_, pss_cons (ps_set (i := 1) nd rfl (Or.inl rfl) pe_dnewK)
      (pss_cons (ps_set (i := 2) nd rfl (Or.inl rfl) (pe_lst pa_nil))
      (pss_cons (ps_for PassesOwn.never rfl (pi_enum rfl T.enu (pa_cons (pe_meth0 (pv 0) R.cl mR GR hr bR .nil pass0) pa_nil))
          (pg_tup rfl (pgs_cons (pg_name (i := 3) nd rfl (Or.inl rfl)) (pgs_cons (pg_tup rfl (pgs_cons (pg_name (i := 4) nd rfl (Or.inl rfl)) (pgs_cons (pg_name (i := 5) nd rfl (Or.inl rfl)) (pgs_cons (pg_name (i := 6) nd rfl (Or.inl rfl)) pgs_nil)))) pgs_nil)))
        (pss_cons (ps_expr (pe_bm PySem.F.plainAttrs_list PySem.F.slot_list_append PySem.F.type_list_append mt_append (pv 2) (pa_cons (pe_ifExp (pt_cmpR op_eq (pv 5) pe_str (nomark _)) (pe_dget1 hu (pv 1) (pv 6) ⟨rfl, rfl, rfl, rfl⟩) pe_non) pa_nil)))
        (pss_one (ps_if (pt_cmpR op_eq (pv 5) pe_str (nomark _)) (pss_one (ps_dput hu (pv 1) (pv 6) (pv 3) rfl)) pss_nil))))
      (pss_one (ps_ret (pv 2))))), ?_⟩
    refine fun ga nga => ?_
    dsimp only [gName]
    refine ⟨Nat.zero_le _, fun ta nta => ?_⟩
    dsimp only [gName]
    obtain ⟨n_ta_ga, nta1⟩ := none_updS nta
    have s2 : Same H (upd (upd H ga (.dK [])) ta (.lst [])) := (same_new nga).put2 nta1
    have ega : upd (upd H ga (.dK [])) ta (.lst []) ga = some (.dK []) := by rw [upd_ne n_ta_ga.symm, upd_same]
    have eta : upd (upd H ga (.dK [])) ta (.lst []) ta = some (.lst []) := upd_same
    generalize upd (upd H ga (.dK [])) ta (.lst []) = H2 at s2 ega eta
    obtain ⟨dx, tp, e1, e2⟩ := id hR.ex
    refine ⟨_, rfl, p, dx, _, rfl, s2 _ _ e1, rflds_no _ _ _ (by decide +kernel) (by decide +kernel) (by decide +kernel), p, m, xs, rfl, hR.same s2, fun l nl => ?_⟩
    have s3 := same_new (o := .lst xs) nl
    have el : upd H2 l (.lst xs) l = some (.lst xs) := upd_same
    have n_l_ta : l ≠ ta := (ne_of_none eta nl).symm
    have n_l_ga : l ≠ ga := (ne_of_none ega nl).symm
    have ega3 := s3 _ _ ega
    have eta3 := s3 _ _ eta
    have s03 := s2.trans s3
    generalize upd H2 l (.lst xs) = H3 at s03 ega3 eta3 el
    clear s3 s2 nl ega eta
    refine ⟨l, rfl, ⟨_, SqL.of el⟩, for_enum (K := K) (a := l) (xs := xs) (fun i σ H4 => ∃ (kvs : List (Key × V)) (v3 v4 v5 v6 : Option V), σ = [some (.ref p), some (.ref ga), some (.ref ta), v3, v4, v5, v6] ∧ Same H H4 ∧ H4 l = some (.lst xs) ∧ H4 ga = some (.dK kvs) ∧ kvs.length ≤ i ∧ (∀ x : Int, valV kvs (Sum.inl x) = (lastW (dAt ds) x i).map fun (k : Nat) => V.int (k : Int)) ∧ H4 ta = some (.lst (seenV (dAt ds) i)))
      ⟨[], none, none, none, none, rfl, s03, el, ega3, Nat.le_refl _, fun x => rfl, eta3⟩ (fun i σ H4 _ ⟨_, _, _, _, _, _, _, e, _⟩ => SqL.of e) ?_ ?_⟩
    · rintro i y σ H4 tp hi ⟨kvs, v3, v4, v5, v6, rfl, s4, el4, eg4, lk, vk, et4⟩ htp
      have hil : i < ds.length := by rw [← hxl]; exact (List.getElem?_eq_some_iff.mp hi).1
      obtain ⟨r, t, wd, x, rfl, er, ed⟩ := (hds.same s4).get hi
      have hD : dAt ds i = (t, wd, x) := dAt_of ed
      have s5 : Same H4 (upd H4 tp (.tup [.int (i : Int), .ref r])) := same_new htp
      have el5 := s5 _ _ el4
      have eg5 := s5 _ _ eg4
      have et5 := s5 _ _ et4
      refine ⟨tp, _, rfl, SqT.of upd_same, rfl, _, _, rfl, _, _, rfl, ⟨r, _, rfl, SqT.of (s5 _ _ er), rfl, _, _, rfl, _, _, rfl, _, _, rfl, rfl, rfl, ?_⟩⟩
      have s05 := s4.trans s5
      generalize upd H4 tp (.tup [.int (i : Int), .ref r]) = H5 at s05 el5 eg5 et5
      clear s5 el4 eg4 et4
      have n_ga_ta : ga ≠ ta := n_ta_ga.symm
      have nga0 : H ga = none := nga
      refine ⟨_, rfl, .inl ⟨rfl, _, SqL.of et5⟩, ?_⟩
      have wdd : ∀ (lw : Str) (Hh : Hp) (Qt : Bool → Hp → Prop), Qt (decide (wd = lw)) Hh → Qt (decide (V.str wd = V.str lw)) Hh := fun lw Hh Qt q => by rw [dec_str']; exact q
      have eS : seenAt (dAt ds) i = if wd = W.read then lastW (dAt ds) x i else none := by unfold seenAt; rw [hD]
      refine tIf_pick (c := wd = W.read) (v := oN (seenAt (dAt ds) i)) (fun Qt q => ⟨_, rfl, rfl, _, rfl, wdd _ _ Qt q⟩) (fun z Q' q => ⟨_, rfl, ga, rfl, .inl ⟨kvs, .inl eg5⟩, _, rfl, _, DGet.k (k := Sum.inl x) eg5, ?_⟩) (fun z Q' q => ?_) ?_
      · rw [vk x]
        rw [eS, if_pos z] at q
        cases e : lastW (dAt ds) x i with
        | none => rw [e] at q; exact q
        | some k => rw [e] at q; exact q
      · rw [eS, if_neg z] at q
        exact q
      refine ⟨ta, _, _, rfl, rfl, et5, small1000 (by rw [seenV_len]; omega), ?_⟩
      dsimp only
      rw [← seenV_succ]
      have eg6 : upd H5 ta (.lst (seenV (dAt ds) (i + 1))) ga = some (.dK kvs) := by rw [upd_ne n_ta_ga.symm]; exact eg5
      refine PuT.if1 (c := wd = W.write) (fun Qt q => ⟨_, rfl, rfl, _, rfl, wdd _ _ Qt q⟩) (fun z => ?_) (fun z => ?_)
      · refine ⟨_, rfl, _, rfl, _, rfl, ga, _, rfl, DPut.k (k := Sum.inl x) eg6 (small1000 (by omega)), ?_⟩
        refine ⟨putK kvs (Sum.inl x) (.int (i : Int)), _, _, _, _, rfl, (s05.put2 nta1).put2 nga, by rw [upd_ne n_l_ga, upd_ne n_l_ta]; exact el5, upd_same, ?_, fun y => ?_, by rw [upd_ne n_ta_ga, upd_same]⟩
        · have := length_putK kvs (Sum.inl x) (.int (i : Int)); omega
        · rw [valV_put]
          show _ = (lastW (dAt ds) y (i + 1)).map _
          unfold lastW
          rw [hD]
          by_cases e : y = x
          · subst e
            rw [if_pos rfl, if_pos ⟨z, rfl⟩]
            rfl
          · rw [if_neg (fun q => e (Sum.inl.inj q)), if_neg (fun q => e q.2.symm), vk y]
      · refine ⟨kvs, _, _, _, _, rfl, s05.put2 nta1, by rw [upd_ne n_l_ta]; exact el5, eg6, by omega, fun y => ?_, upd_same⟩
        rw [vk y]
        show _ = (lastW (dAt ds) y (i + 1)).map _
        rw [show lastW (dAt ds) y (i + 1) = lastW (dAt ds) y i by
          show (if (dAt ds i).2.1 = W.write ∧ _ then _ else _) = _
          rw [hD, if_neg (fun q => z q.1)]]
    · rintro σ H4 ⟨kvs, v3, v4, v5, v6, rfl, s4, el4, eg4, lk, vk, et4⟩
      refine ⟨_, rfl, ?_⟩
      rw [hxl] at et4
      exact k ta H4 s4 nta1 et4
end
end K
namespace RC
open PySem
theorem gone_pre {D : Nat → Deed} {i : Nat} {t : Int} : (stOf (pre D i)).gone t = true ↔ ∃ j, j < i ∧ (D j).2.1 = W.wait ∧ (D j).2.2 = t := by
  rw [gone_eq, decide_eq_true_iff]
  unfold goneL
  rw [List.mem_map]
  constructor
  · rintro ⟨o, ho, e⟩
    obtain ⟨h1, h2⟩ := List.mem_filter.mp ho
    obtain ⟨j, hj, rfl⟩ := mem_pre.mp h1
    exact ⟨j, hj, of_decide_eq_true h2, e⟩
  · rintro ⟨j, hj, h1, h2⟩
    exact ⟨D j, List.mem_filter.mpr ⟨mem_pre.mpr ⟨j, hj, rfl⟩, decide_eq_true h1⟩, h2⟩
structure Good (m : Int) (D : Nat → Deed) (k : Nat) : Prop where
  fo : form m (D k) = none
  up : (stOf (pre D k)).awake (D k).1 = true
  gn : (stOf (pre D k)).gone (D k).1 = false
  tk : (D k).2.1 = W.take → (stOf (pre D k)).hold (D k).2.2 = none
  gv : (D k).2.1 = W.give → (stOf (pre D k)).hold (D k).2.2 = some (D k).1
  fk : (D k).2.1 = W.fork → (stOf (pre D k)).awake (D k).2.2 = false
  wa : (D k).2.1 = W.wait → (stOf (pre D k)).awake (D k).2.2 = true
  wt : (D k).2.1 = W.wait → (D k).2.2 ≠ (D k).1
theorem good_iff {m : Int} {D : Nat → Deed} {k : Nat} : faultOf m (stOf (pre D k)) (D k) = none ↔ Good m D k := by
  constructor
  · intro h
    unfold faultOf stF at h
    rw [Option.or_eq_none_iff, Option.or_eq_none_iff] at h
    obtain ⟨h1, h2, h3⟩ := h
    unfold thF at h2
    unfold woF at h3
    have u1 : (stOf (pre D k)).awake (D k).1 = true := by
      cases q : (stOf (pre D k)).awake (D k).1 with
      | true => rfl
      | false => rw [if_pos q] at h2; cases h2
    rw [if_neg (by rw [u1]; decide)] at h2
    have u2 : (stOf (pre D k)).gone (D k).1 = false := by
      cases q : (stOf (pre D k)).gone (D k).1 with
      | false => rfl
      | true => rw [if_pos q] at h2; cases h2
    have t1 : ¬ ((D k).2.1 = W.take ∧ ((stOf (pre D k)).hold (D k).2.2).isSome = true) := fun z => by rw [if_pos z] at h3; cases h3
    rw [if_neg t1] at h3
    have t2 : ¬ ((D k).2.1 = W.give ∧ (stOf (pre D k)).hold (D k).2.2 ≠ some (D k).1) := fun z => by rw [if_pos z] at h3; cases h3
    rw [if_neg t2] at h3
    have t3 : ¬ ((D k).2.1 = W.fork ∧ (stOf (pre D k)).awake (D k).2.2 = true) := fun z => by rw [if_pos z] at h3; cases h3
    rw [if_neg t3] at h3
    have t4 : ¬ ((D k).2.1 = W.wait ∧ (stOf (pre D k)).awake (D k).2.2 = false) := fun z => by rw [if_pos z] at h3; cases h3
    rw [if_neg t4] at h3
    have t5 : ¬ ((D k).2.1 = W.wait ∧ (D k).2.2 = (D k).1) := fun z => by rw [if_pos z] at h3; cases h3
    refine ⟨h1, u1, u2, fun e => ?_, fun e => ?_, fun e => ?_, fun e => ?_, fun e z => t5 ⟨e, z⟩⟩
    · cases q : (stOf (pre D k)).hold (D k).2.2 with
      | none => rfl
      | some v => exact absurd ⟨e, by rw [q]; rfl⟩ t1
    · exact Classical.byContradiction fun z => t2 ⟨e, z⟩
    · cases q : (stOf (pre D k)).awake (D k).2.2 with
      | false => rfl
      | true => exact absurd ⟨e, q⟩ t3
    · cases q : (stOf (pre D k)).awake (D k).2.2 with
      | true => rfl
      | false => exact absurd ⟨e, q⟩ t4
  · intro g
    unfold faultOf stF
    rw [Option.or_eq_none_iff, Option.or_eq_none_iff]
    refine ⟨g.fo, ?_, ?_⟩
    · unfold thF
      rw [if_neg (by rw [g.up]; decide), if_neg (by rw [g.gn]; decide)]
    · unfold woF
      rw [if_neg (fun z => by rw [g.tk z.1] at z; exact absurd z.2 (by decide)), if_neg (fun z => z.2 (g.gv z.1)), if_neg (fun z => by rw [g.fk z.1] at z; exact absurd z.2 (by decide)),
        if_neg (fun z => by rw [g.wa z.1] at z; exact absurd z.2 (by decide)), if_neg (fun z => g.wt z.1 z.2)]
theorem hold_some {D : Nat → Deed} {x : Int} {i : Nat} (e1 : (D i).2.1 = W.take) (e2 : (D i).2.2 = x) : ∀ j, i < j → (∀ k, i < k → k < j → ¬ ((D k).2.1 = W.give ∧ (D k).2.2 = x)) → ((stOf (pre D j)).hold x).isSome = true
  | 0, h, _ => by omega
  | j + 1, h, hn => by
    rw [pre_succ, stOf_snoc]
    show (if x = (D j).2.2 ∧ (D j).2.1 = W.take then some (D j).1 else if x = (D j).2.2 ∧ (D j).2.1 = W.give then none else (stOf (pre D j)).hold x).isSome = true
    by_cases q : x = (D j).2.2 ∧ (D j).2.1 = W.take
    · rw [if_pos q]; rfl
    · rw [if_neg q]
      by_cases z : i = j
      · subst z; exact absurd ⟨e2.symm, e1⟩ q
      · rw [if_neg (fun y => hn j (by omega) (Nat.lt_succ_self _) ⟨y.2, y.1.symm⟩)]
        exact hold_some e1 e2 j (by omega) fun k h1 h2 => hn k h1 (by omega)
theorem hold_last {D : Nat → Deed} {x : Int} {i : Nat} (e1 : (D i).2.1 = W.take) (e2 : (D i).2.2 = x) : ∀ j, i < j → (∀ k, i < k → k < j → (D k).2.2 = x → (D k).2.1 ≠ W.give ∧ (D k).2.1 ≠ W.take) → (stOf (pre D j)).hold x = some (D i).1
  | 0, h, _ => by omega
  | j + 1, h, hn => by
    rw [pre_succ, stOf_snoc]
    show (if x = (D j).2.2 ∧ (D j).2.1 = W.take then some (D j).1 else if x = (D j).2.2 ∧ (D j).2.1 = W.give then none else (stOf (pre D j)).hold x) = some (D i).1
    by_cases z : i = j
    · subst z; rw [if_pos ⟨e2.symm, e1⟩]
    · rw [if_neg (fun y => (hn j (by omega) (Nat.lt_succ_self _) y.1.symm).2 y.2), if_neg (fun y => (hn j (by omega) (Nat.lt_succ_self _) y.1.symm).1 y.2)]
      exact hold_last e1 e2 j (by omega) fun k h1 h2 => hn k h1 (by omega)
theorem Bf.trans {D : Nat → Deed} {a b c : Nat} (h1 : Bf D b a) (h2 : Bf D c b) : Bf D c a := by
  induction h2 with
  | one h e => exact .two h e h1
  | two h e _ ih => exact .two h e (ih h1)
section
variable {m : Int} {D : Nat → Deed} {n : Nat}
theorem lock_ahead (h : ∀ k, k < n → Good m D k) {x : Int} : ∀ (s i j : Nat), j - i ≤ s → i < j → j < n → (D i).2.2 = x → (D j).2.2 = x → ((D i).2.1 = W.take ∨ (D i).2.1 = W.give) → ((D j).2.1 = W.take ∨ (D j).2.1 = W.give) → Bf D j i
  | 0, i, j, hs, hij, _, _, _, _, _ => by omega
  | s + 1, i, j, hs, hij, hj, xi, xj, ki, kj => by
    have give_take : ∀ {a b : Nat}, a < b → (D a).2.1 = W.give → (D b).2.1 = W.take → (D a).2.2 = x → (D b).2.2 = x → Bf D b a := fun hab ga tb xa xb => .one hab (.inr (.inr (.inr ⟨ga, tb, xa.trans xb.symm⟩)))
    have between : ∀ {a b : Nat}, a < b → b < n → (D a).2.1 = W.take → (D b).2.1 = W.take → (D a).2.2 = x → (D b).2.2 = x → ∃ g, a < g ∧ g < b ∧ (D g).2.1 = W.give ∧ (D g).2.2 = x := fun {a b} hab hb ta tb xa xb => by
      apply Classical.byContradiction
      intro no
      have := hold_some ta xa b hab fun k h1 h2 z => no ⟨k, h1, h2, z⟩
      have h2 := (h b hb).tk tb
      rw [xb] at h2
      rw [h2] at this
      cases this
    have take_take : (D i).2.1 = W.take → ∀ b, i < b → b ≤ j → b < n → (D b).2.1 = W.take → (D b).2.2 = x → Bf D b i := fun ti b h1 h2 h3 tb xb => by
      obtain ⟨g, g1, g2, g3, g4⟩ := between h1 h3 ti tb xi xb
      exact (lock_ahead h s i g (by omega) g1 (by omega) xi g4 (.inl ti) (.inr g3)).trans (give_take g2 g3 tb g4 xb)
    rcases kj with tj | gj
    · rcases ki with ti | gi
      · exact take_take ti j hij (Nat.le_refl _) hj tj xj
      · exact give_take hij gi tj xi xj
    · have hh := (h j hj).gv gj
      rw [xj] at hh
      obtain ⟨k, hk, a1, a2, a3, a4⟩ := hold_pre hh
      have kj : Bf D j k := .one hk (.inl a1)
      rcases Nat.lt_trichotomy i k with z | z | z
      · rcases ki with ti | gi
        · exact (take_take ti k z (by omega) (by omega) a2 a3).trans kj
        · exact (give_take z gi a2 xi a3).trans kj
      · subst z; exact kj
      · rcases ki with ti | gi
        · obtain ⟨g, g1, g2, g3, g4⟩ := between z (by omega) a2 ti a3 xi
          exact absurd ⟨g3, g4⟩ (a4 g g1 (by omega))
        · exact absurd ⟨gi, xi⟩ (a4 i z hij)
end
structure Wv (D : Nat → Deed) (n : Nat) (p : Nat → Nat) : Prop where
  lt : ∀ a, a < n → p a < n
  inj : ∀ a b, a < n → b < n → p a = p b → a = b
  sur : ∀ i, i < n → ∃ a, a < n ∧ p a = i
  ord : ∀ a b, a < n → b < n → Bf D (p b) (p a) → a < b
theorem Wv.good {m : Int} {D : Nat → Deed} {n : Nat} {p : Nat → Nat} (w : Wv D n p) (h : ∀ k, k < n → Good m D k) : ∀ q, q < n → Good m (fun a => D (p a)) q := by
  intro q hq
  have g := h (p q) (w.lt q hq)
  have pos : ∀ i, i < n → Bf D (p q) i → ∃ a, a < q ∧ p a = i := fun i hi b => by
    obtain ⟨a, ha, e⟩ := w.sur i hi
    exact ⟨a, w.ord a q ha hq (by rw [e]; exact b), e⟩
  have lq := w.lt q hq
  have locks : ∀ {a b : Nat} {x : Int}, a < n → b < n → a < b → (D (p a)).2.2 = x → (D (p b)).2.2 = x → ((D (p a)).2.1 = W.take ∨ (D (p a)).2.1 = W.give) → ((D (p b)).2.1 = W.take ∨ (D (p b)).2.1 = W.give) → p a < p b := fun {a b x} ha hb hab xa xb ka kb => by
    rcases Nat.lt_trichotomy (p a) (p b) with z | z | z
    · exact z
    · have := w.inj a b ha hb z; omega
    · have := w.ord b a hb ha (lock_ahead h _ _ _ (Nat.le_refl _) z (w.lt a ha) xb xa kb ka); omega
  refine ⟨g.fo, ?_, ?_, fun e => ?_, fun e => ?_, fun e => ?_, fun e => ?_, g.wt⟩
  · rcases awake_pre.mp g.up with z | ⟨j, hj, z1, z2⟩
    · exact awake_pre.mpr (.inl z)
    · obtain ⟨a, ha, ea⟩ := pos j (by omega) (.one hj (.inr (.inl ⟨z1, .inl z2.symm⟩)))
      exact awake_pre.mpr (.inr ⟨a, ha, by rw [ea]; exact z1, by rw [ea]; exact z2⟩)
  · cases z : (stOf (pre (fun a => D (p a)) q)).gone (D (p q)).1 with
    | false => rfl
    | true =>
      obtain ⟨a, ha, z1, z2⟩ := gone_pre.mp z
      have hw : p q < p a := by
        rcases Nat.lt_trichotomy (p q) (p a) with y | y | y
        · exact y
        · have := w.inj q a hq (by omega) y; omega
        · have := gone_pre.mpr ⟨p a, y, z1, z2⟩
          rw [g.gn] at this
          cases this
      have := w.ord q a hq (by omega) (.one hw (.inr (.inr (.inl ⟨z1, z2⟩))))
      omega
  · cases z : (stOf (pre (fun a => D (p a)) q)).hold (D (p q)).2.2 with
    | none => rfl
    | some t =>
      obtain ⟨a, ha, a1, a2, a3, a4⟩ := hold_pre z
      have hlt := locks (x := (D (p q)).2.2) (by omega) hq ha a3 rfl (.inl a2) (.inl e)
      have : ∃ gv, p a < gv ∧ gv < p q ∧ (D gv).2.1 = W.give ∧ (D gv).2.2 = (D (p q)).2.2 := by
        apply Classical.byContradiction
        intro no
        have y := hold_some a2 a3 (p q) hlt fun k h1 h2 z => no ⟨k, h1, h2, z⟩
        rw [g.tk e] at y
        cases y
      obtain ⟨gv, g1, g2, g3, g4⟩ := this
      obtain ⟨r, hr, er⟩ := w.sur gv (by omega)
      have r1 := w.ord a r (by omega) hr (by rw [er]; exact lock_ahead h _ _ _ (Nat.le_refl _) g1 (by omega) a3 g4 (.inl a2) (.inr g3))
      have r2 := w.ord r q hr hq (by rw [er]; exact lock_ahead h _ _ _ (Nat.le_refl _) g2 lq g4 rfl (.inr g3) (.inl e))
      exact absurd ⟨by rw [er]; exact g3, by rw [er]; exact g4⟩ (a4 r r1 r2)
  · obtain ⟨k, hk, a1, a2, a3, a4⟩ := hold_pre (g.gv e)
    obtain ⟨a, ha, ea⟩ := pos k (by omega) (.one hk (.inl a1))
    have y := hold_last (D := fun a => D (p a)) (x := (D (p q)).2.2) (i := a) (by show (D (p a)).2.1 = _; rw [ea]; exact a2) (by show (D (p a)).2.2 = _; rw [ea]; exact a3) q ha fun r h1 h2 xr => by
      have nt : (D (p r)).2.1 = W.take ∨ (D (p r)).2.1 = W.give → False := fun kr => by
        have l1 := locks (x := (D (p q)).2.2) (a := a) (b := r) (by omega) (by omega) h1 (by rw [ea]; exact a3) xr (.inl (by rw [ea]; exact a2)) kr
        have l2 := locks (x := (D (p q)).2.2) (a := r) (b := q) (by omega) hq h2 xr rfl kr (.inr e)
        rw [ea] at l1
        rcases kr with tr | gr
        · have y := hold_some a2 a3 (p r) l1 fun k' h1 h2 z => a4 k' h1 (by omega) z
          have y2 := (h (p r) (by omega)).tk tr
          rw [xr] at y2
          rw [y2] at y
          cases y
        · exact a4 (p r) l1 l2 ⟨gr, xr⟩
      exact ⟨fun z => nt (.inr z), fun z => nt (.inl z)⟩
    rw [y]
    show some (D (p a)).1 = _
    rw [ea, a1]
  · cases z : (stOf (pre (fun a => D (p a)) q)).awake (D (p q)).2.2 with
    | false => rfl
    | true =>
      have f0 := g.fk e
      rcases awake_pre.mp z with y | ⟨a, ha, y1, y2⟩
      · rw [awake_pre.mpr (.inl y)] at f0
        cases f0
      · have := NoF.F2 (nof_of (m := m) fun k hk => good_iff.mpr (h k hk)) (w.lt a (by omega)) lq y1 y2 e rfl
        have := w.inj a q (by omega) hq this
        omega
  · rcases awake_pre.mp (g.wa e) with z | ⟨j, hj, z1, z2⟩
    · exact awake_pre.mpr (.inl z)
    · obtain ⟨a, ha, ea⟩ := pos j (by omega) (.one hj (.inr (.inl ⟨z1, .inr ⟨e, z2.symm⟩⟩)))
      exact awake_pre.mpr (.inr ⟨a, ha, by rw [ea]; exact z1, by rw [ea]; exact z2⟩)
end RC
namespace RC
open PySem
section
variable {m : Int} {D : Nat → Deed} {n : Nat} {p : Nat → Nat}
end
structure IsW (D : Nat → Deed) (n : Nat) (l : List Nat) : Prop where
  perm : l.Perm (List.range n)
  ord : l.Pairwise fun a b => ¬ Bf D a b
theorem IsW.len {D : Nat → Deed} {n : Nat} {l : List Nat} (w : IsW D n l) : l.length = n := by rw [w.perm.length_eq, List.length_range]
theorem IsW.wv {D : Nat → Deed} {n : Nat} {l : List Nat} (w : IsW D n l) : Wv D n fun a => l.getD a 0 := by
  have len := w.len
  have nd : l.Nodup := w.perm.nodup_iff.mpr List.nodup_range
  have get : ∀ a (ha : a < n), l.getD a 0 = l[a]'(by omega) := fun a ha => by rw [List.getD_eq_getElem?_getD, List.getElem?_eq_getElem (by omega)]; rfl
  refine ⟨fun a ha => ?_, fun a b ha hb e => ?_, fun i hi => ?_, fun a b ha hb z => ?_⟩
  · rw [get a ha]
    exact List.mem_range.mp (w.perm.mem_iff.mp (List.getElem_mem _))
  · rw [get a ha, get b hb] at e
    exact (List.getElem_inj nd).mp e
  · obtain ⟨a, ha, e⟩ := List.getElem_of_mem (w.perm.mem_iff.mpr (List.mem_range.mpr hi))
    exact ⟨a, by omega, by rw [get a (by omega)]; exact e⟩
  · rw [get a ha, get b hb] at z
    rcases Nat.lt_trichotomy a b with y | y | y
    · exact y
    · subst y; exact absurd z.lt (Nat.lt_irrefl _)
    · exact absurd z (List.pairwise_iff_getElem.mp w.ord b a (by omega) (by omega) y)
def besideL (P : Nat → Bool) (n x y : Nat) : List Nat := (List.range n).filter P ++ [x, y] ++ (List.range n).filter fun i => !P i && (decide (i ≠ x) && decide (i ≠ y))
theorem beside_isW {D : Nat → Deed} {n x y : Nat} {P : Nat → Bool} (hP : ∀ i, P i = true ↔ Bf D x i ∨ Bf D y i) (hx : x < n) (hy : y < n) (ne : x ≠ y) (nxy : ¬ Bf D x y) (nyx : ¬ Bf D y x) : IsW D n (besideL P n x y) := by
  have px : P x = false := by
    cases z : P x with
    | false => rfl
    | true =>
      rcases (hP x).mp z with q | q
      · exact absurd q.lt (Nat.lt_irrefl _)
      · exact absurd q nyx
  have py : P y = false := by
    cases z : P y with
    | false => rfl
    | true =>
      rcases (hP y).mp z with q | q
      · exact absurd q nxy
      · exact absurd q.lt (Nat.lt_irrefl _)
  have sorted : ∀ q : Nat → Bool, ((List.range n).filter q).Pairwise fun a b => ¬ Bf D a b := fun q =>
    (List.Pairwise.imp (fun {a b} (h : a < b) z => by have := Bf.lt z; omega) List.pairwise_lt_range).filter q
  have down : ∀ a b, P a = true → Bf D a b → P b = true := fun a b pa z => (hP b).mpr (by
    rcases (hP a).mp pa with q | q
    · exact .inl (z.trans q)
    · exact .inr (z.trans q))
  refine ⟨?_, ?_⟩
  · refine (List.perm_ext_iff_of_nodup ?_ List.nodup_range).mpr fun i => ?_
    · unfold besideL
      rw [List.nodup_append, List.nodup_append]
      refine ⟨⟨List.nodup_range.filter _, by simp [ne], fun a ha b hb => ?_⟩, List.nodup_range.filter _, fun a ha b hb => ?_⟩
      · intro e
        subst e
        have pa := (List.mem_filter.mp ha).2
        rcases List.mem_cons.mp hb with e | hb
        · rw [e, px] at pa; cases pa
        · rw [List.mem_singleton.mp hb, py] at pa; cases pa
      · intro e
        subst e
        have pb := (List.mem_filter.mp hb).2
        rw [Bool.and_eq_true, Bool.and_eq_true, decide_eq_true_iff, decide_eq_true_iff, Bool.not_eq_true'] at pb
        rcases List.mem_append.mp ha with ha | ha
        · rw [(List.mem_filter.mp ha).2] at pb; cases pb.1
        · rcases List.mem_cons.mp ha with e | ha
          · exact pb.2.1 e
          · exact pb.2.2 (List.mem_singleton.mp ha)
    · unfold besideL
      rw [List.mem_append, List.mem_append, List.mem_filter, List.mem_filter, List.mem_range]
      constructor
      · rintro ((h | h) | h)
        · exact h.1
        · rcases List.mem_cons.mp h with e | h
          · omega
          · have := List.mem_singleton.mp h; omega
        · exact h.1
      · intro hi
        by_cases e1 : i = x
        · exact .inl (.inr (by simp [e1]))
        by_cases e2 : i = y
        · exact .inl (.inr (by simp [e2]))
        cases q : P i with
        | true => exact .inl (.inl ⟨hi, rfl⟩)
        | false => exact .inr ⟨hi, by simp [e1, e2]⟩
  · unfold besideL
    rw [List.pairwise_append, List.pairwise_append]
    refine ⟨⟨sorted _, by simp [nxy], fun a ha b hb z => ?_⟩, sorted _, fun a ha b hb z => ?_⟩
    · have pb := down a b (List.mem_filter.mp ha).2 z
      rcases List.mem_cons.mp hb with e | hb
      · rw [e, px] at pb; cases pb
      · rw [List.mem_singleton.mp hb, py] at pb; cases pb
    · have pb := (List.mem_filter.mp hb).2
      rw [Bool.and_eq_true, Bool.not_eq_true'] at pb
      have : P b = true := by
        rcases List.mem_append.mp ha with ha | ha
        · exact down a b (List.mem_filter.mp ha).2 z
        · rcases List.mem_cons.mp ha with e | ha
          · exact (hP b).mpr (.inl (e ▸ z))
          · exact (hP b).mpr (.inr (List.mem_singleton.mp ha ▸ z))
      rw [pb.1] at this
      cases this
def clash (a b : Deed) : Prop := a.1 ≠ b.1 ∧ a.2.2 = b.2.2 ∧ ((a.2.1 = W.write ∧ (b.2.1 = W.read ∨ b.2.1 = W.write)) ∨ (b.2.1 = W.write ∧ (a.2.1 = W.read ∨ a.2.1 = W.write)))
end RC
namespace RC
open PySem
section
variable {m : Int} {D : Nat → Deed} {n : Nat}
structure Race (D : Nat → Deed) (n x y : Nat) : Prop where
  lt : x < y
  hy : y < n
  cl : clash (D x) (D y)
  no : ¬ Bf D y x
structure First (D : Nat → Deed) (n x y : Nat) : Prop where
  race : Race D n x y
  le : ∀ a b, Race D n a b → y ≤ b ∧ (b = y → x ≤ a)
theorem First.write {x y r w : Nat} (f : First D n x y) (hr : Bf D x r ∨ Bf D y r) (hw : w < r) (e1 : (D w).2.1 = W.write) (e2 : (D r).2.1 = W.read) (e3 : (D w).2.2 = (D r).2.2) : Bf D r w := by
  have ry : r < y := by
    rcases hr with z | z
    · have := z.lt; have := f.race.lt; omega
    · exact z.lt
  by_cases same : (D w).1 = (D r).1
  · exact .one hw (.inl same)
  apply Classical.byContradiction
  intro no
  have := (f.le w r ⟨hw, by have := f.race.hy; omega, ⟨same, e3, .inl ⟨e1, .inl e2⟩⟩, no⟩).1
  omega
end
end RC
namespace RC
open PySem
instance (a b : Deed) : Decidable (clash a b) := by unfold clash; infer_instance
def rowP (p : Nat → Nat → Bool) (i k : Nat) : List (Nat × Nat) := ((List.range k).filter fun j => p i (i + 1 + j)).map fun j => (i, i + 1 + j)
def allP (p : Nat → Nat → Bool) (n m : Nat) : List (Nat × Nat) := (List.range m).flatMap fun i => rowP p i (n - (i + 1))
theorem rowP_zero (p : Nat → Nat → Bool) (i : Nat) : rowP p i 0 = [] := rfl
theorem rowP_succ (p : Nat → Nat → Bool) (i k : Nat) : rowP p i (k + 1) = if p i (i + 1 + k) = true then rowP p i k ++ [(i, i + 1 + k)] else rowP p i k := by
  unfold rowP
  rw [List.range_succ, List.filter_append, List.map_append]
  cases h : p i (i + 1 + k) with
  | true => rw [if_pos rfl]; simp [h]
  | false => rw [if_neg (by decide)]; simp [h]
theorem allP_succ (p : Nat → Nat → Bool) (n m : Nat) : allP p n (m + 1) = allP p n m ++ rowP p m (n - (m + 1)) := by
  unfold allP
  rw [List.range_succ, List.flatMap_append]
  simp
theorem rowP_len (p : Nat → Nat → Bool) (i k : Nat) : (rowP p i k).length ≤ k := by
  unfold rowP
  rw [List.length_map]
  have := List.length_filter_le (fun j => p i (i + 1 + j)) (List.range k)
  rw [List.length_range] at this
  exact this
theorem allP_len (p : Nat → Nat → Bool) (n : Nat) : ∀ m, (allP p n m).length ≤ m * n
  | 0 => by simp [allP]
  | m + 1 => by
    rw [allP_succ, List.length_append, Nat.succ_mul]
    have h1 := allP_len p n m
    have h2 := rowP_len p m (n - (m + 1))
    omega
theorem mem_rowP {p : Nat → Nat → Bool} {i k : Nat} {q : Nat × Nat} : q ∈ rowP p i k ↔ q.1 = i ∧ i < q.2 ∧ q.2 < i + 1 + k ∧ p i q.2 = true := by
  unfold rowP
  constructor
  · intro h
    obtain ⟨j, hj, rfl⟩ := List.mem_map.mp h
    obtain ⟨h1, h2⟩ := List.mem_filter.mp hj
    rw [List.mem_range] at h1
    exact ⟨rfl, by show i < i + 1 + j; omega, by show i + 1 + j < _; omega, h2⟩
  · rintro ⟨h1, h2, h3, h4⟩
    obtain ⟨a, b⟩ := q
    have h1 : a = i := h1
    have h2 : i < b := h2
    have h3 : b < i + 1 + k := h3
    subst h1
    refine List.mem_map.mpr ⟨b - (a + 1), List.mem_filter.mpr ⟨List.mem_range.mpr (by omega), ?_⟩, ?_⟩
    · show p a (a + 1 + (b - (a + 1))) = true
      rw [show a + 1 + (b - (a + 1)) = b by omega]
      exact h4
    · rw [show a + 1 + (b - (a + 1)) = b by omega]
theorem mem_allP {p : Nat → Nat → Bool} {n m : Nat} {q : Nat × Nat} : q ∈ allP p n m ↔ q.1 < m ∧ q.1 < q.2 ∧ q.2 < n ∧ p q.1 q.2 = true := by
  unfold allP
  rw [List.mem_flatMap]
  constructor
  · rintro ⟨i, hi, h⟩
    rw [List.mem_range] at hi
    obtain ⟨h1, h2, h3, h4⟩ := mem_rowP.mp h
    subst h1
    exact ⟨hi, h2, by omega, h4⟩
  · rintro ⟨h1, h2, h3, h4⟩
    exact ⟨q.1, List.mem_range.mpr h1, mem_rowP.mpr ⟨rfl, h2, by omega, h4⟩⟩
theorem filter_rowP (p : Nat → Nat → Bool) (r : Nat × Nat → Bool) (i k : Nat) : (rowP p i k).filter r = rowP (fun a b => p a b && r (a, b)) i k := by
  unfold rowP
  rw [List.filter_map, List.filter_filter]
  congr 1
  refine List.filter_congr fun j _ => ?_
  show (r (i, i + 1 + j) && p i (i + 1 + j)) = (p i (i + 1 + j) && r (i, i + 1 + j))
  exact Bool.and_comm _ _
theorem filter_flatMap' {α β : Type} (r : β → Bool) (f : α → List β) : ∀ l : List α, (l.flatMap f).filter r = l.flatMap fun a => (f a).filter r
  | [] => rfl
  | a :: l => by rw [List.flatMap_cons, List.filter_append, filter_flatMap' r f l, List.flatMap_cons]
theorem filter_allP (p : Nat → Nat → Bool) (r : Nat × Nat → Bool) (n m : Nat) : (allP p n m).filter r = allP (fun a b => p a b && r (a, b)) n m := by
  unfold allP
  rw [filter_flatMap']
  simp only [filter_rowP]
end RC
namespace L2
open PySem
def CompG (K : PySem.W.Frag) (nt : Nat) (fr : List Nat) (g : TG) (tt : TT) (te : TE) (σ : St) (H1 : Hp) (Q : VK) (a : Addr) : Prop :=
  ∀ D, H1 D = none → ∃ W : Nat → Nat → St → Hp → Prop, (∃ m, W 0 m (startC nt fr σ) (upd H1 D (.lst []))) ∧
      ∀ i m σ' H', W i m σ' H' → ((Itl K a).stop i H' ∧ Q (.ref D) H') ∨ ((Itl K a).go i H' ∧ ∃ N : St → Hp → Prop, (∀ σ2 H2, N σ2 H2 → ∃ m', m' < m ∧ W (i + 1) m' σ2 H2) ∧
        ∀ x H2, (Itl K a).yld i H' x H2 → g x σ' H2 fun σ2 H3 => tt σ2 H3 fun b H4 => if b = true then te σ2 H4 fun v H5 => ∃ ys, H5 D = some (.lst ys) ∧ ys.length < sizeLine ∧ N σ2 (upd H5 D (.lst (ys ++ [v]))) else N σ2 H4)
theorem tComp_iff {K : PySem.W.Frag} {nt : Nat} {fr : List Nat} {tl : TE} {g : TG} {tt : TT} {te : TE} {σ : St} {H : Hp} {Q : VK} :
    tComp nt fr (iList K tl) g tt te σ H Q = tl σ H (fun x H1 => ∃ a, x = .ref a ∧ (∃ xs, SqL K H1 a xs) ∧ CompG K nt fr g tt te σ H1 Q a) := rfl
theorem comp_listG {K : PySem.W.Frag} {nt : Nat} {fr : List Nat} {g : TG} {tt : TT} {te : TE} {σ : St} {H1 : Hp} {Q : VK} {a : Addr} {xs : List V} (Pv : Addr → Nat → List V → Hp → Prop) (hz : xs.length < sizeLine) (h0 : ∀ D, H1 D = none → Pv D 0 [] (upd H1 D (.lst [])))
    (hk : ∀ D i ys H', H1 D = none → Pv D i ys H' → SqL K H' a xs)
    (step : ∀ D i x ys H' (o : St) (N : St → Hp → Prop), H1 D = none → xs[i]? = some x → o.length = nt → Pv D i ys H' → H' D = some (.lst ys) → ys.length < sizeLine →
      (∀ (o2 : St) v H5, o2.length = nt → Pv D (i + 1) (ys ++ [v]) (upd H5 D (.lst (ys ++ [v]))) → N (o2 ++ frV fr σ) (upd H5 D (.lst (ys ++ [v])))) → (∀ (o2 : St) H5, o2.length = nt → H5 D = some (.lst ys) → Pv D (i + 1) ys H5 → N (o2 ++ frV fr σ) H5) →
      g x (o ++ frV fr σ) H' fun σ2 H3 => tt σ2 H3 fun b H4 => if b = true then te σ2 H4 fun v H5 => ∃ ys, H5 D = some (.lst ys) ∧ ys.length < sizeLine ∧ N σ2 (upd H5 D (.lst (ys ++ [v]))) else N σ2 H4)
    (fin : ∀ D ys H', H1 D = none → Pv D xs.length ys H' → H' D = some (.lst ys) → Q (.ref D) H') : CompG K nt fr g tt te σ H1 Q a := fun D hD =>
  comp_by (J := Itl K a) xs.length (Pv D) hz (h0 D hD) (fun i ys H' hi hP => ⟨xs, xs[i], hk D i ys H' hD hP, by simp [hi]⟩) (fun ys H' hP => ⟨xs, hk D _ ys H' hD hP, Nat.le_refl _⟩)
    (fun i ys H' o N hi ho hP hd hys kT kF x H2 y => by
      obtain ⟨e, y⟩ := y
      subst e
      exact step D i x ys H2 o N hD (y xs (hk D i ys H2 hD hP)) ho hP hd hys kT kF) (fun ys H' => fin D ys H' hD)
structure Prs (H : Hp) (vs : List V) (ps : List (Nat × Nat)) : Prop where
  len : vs.length = ps.length
  ats : ∀ (k : Nat) (q : Nat × Nat), ps[k]? = some q → ∃ t, vs[k]? = some (.ref t) ∧ H t = some (.tup [.int (q.1 : Int), .int (q.2 : Int)])
theorem Prs.same {H H' : Hp} {vs : List V} {ps : List (Nat × Nat)} (s : Same H H') (h : Prs H vs ps) : Prs H' vs ps := ⟨h.len, fun k q e => by
  obtain ⟨t, e1, e2⟩ := h.ats k q e
  exact ⟨t, e1, s _ _ e2⟩⟩
theorem Prs.tsame {H H' : Hp} {vs : List V} {ps : List (Nat × Nat)} (s : RC.TSame H H') (h : Prs H vs ps) : Prs H' vs ps := ⟨h.len, fun k q e => by
  obtain ⟨t, e1, e2⟩ := h.ats k q e
  exact ⟨t, e1, s _ _ e2⟩⟩
theorem Prs.nil {H : Hp} : Prs H [] [] := ⟨rfl, fun k q e => by simp at e⟩
theorem Prs.snoc {H : Hp} {vs : List V} {ps : List (Nat × Nat)} {t : Addr} {q : Nat × Nat} (h : Prs H vs ps) (e : H t = some (.tup [.int (q.1 : Int), .int (q.2 : Int)])) : Prs H (vs ++ [.ref t]) (ps ++ [q]) := by
  refine ⟨by rw [List.length_append, List.length_append, h.len]; rfl, fun k q' e' => ?_⟩
  by_cases z : k < ps.length
  · rw [List.getElem?_append_left z] at e'
    obtain ⟨t', e1, e2⟩ := h.ats k q' e'
    exact ⟨t', by rw [List.getElem?_append_left (by rw [h.len]; exact z)]; exact e1, e2⟩
  · rw [List.getElem?_append_right (by omega)] at e'
    have : k - ps.length = 0 := by
      cases e : k - ps.length with
      | zero => rfl
      | succ n => rw [e] at e'; simp at e'
    rw [this] at e'
    cases e'
    refine ⟨t, ?_, e⟩
    rw [List.getElem?_append_right (by rw [h.len]; omega), h.len, this]
    rfl
theorem Prs.get {H : Hp} {vs : List V} {ps : List (Nat × Nat)} (h : Prs H vs ps) {k : Nat} {v : V} (e : vs[k]? = some v) : ∃ t q, v = .ref t ∧ ps[k]? = some q ∧ H t = some (.tup [.int (q.1 : Int), .int (q.2 : Int)]) := by
  have hk : k < ps.length := by rw [← h.len]; exact (List.getElem?_eq_some_iff.mp e).1
  obtain ⟨t, e1, e2⟩ := h.ats k ps[k] (by simp [hk])
  rw [e1] at e
  cases e
  exact ⟨t, ps[k], rfl, by simp [hk], e2⟩
theorem filter_take_snoc {α : Type} {ps : List α} {i : Nat} {q : α} (pb : α → Bool) (e : ps[i]? = some q) : (ps.take (i + 1)).filter pb = if pb q = true then (ps.take i).filter pb ++ [q] else (ps.take i).filter pb := by
  rw [take_snoc e, List.filter_append]
  cases hp : pb q with
  | true => rw [if_pos rfl]; simp [hp]
  | false => rw [if_neg (by decide)]; simp [hp]
theorem comp_pairs {K : PySem.W.Frag} {fr : List Nat} {tt : TT} {σ : St} {H1 : Hp} {Q : VK} {a : Addr} {xs : List V} {ps : List (Nat × Nat)} (pb : Nat × Nat → Bool) (hz : xs.length < sizeLine) (ha : SqL K H1 a xs) (hp : Prs H1 xs ps)
    (ht : ∀ q ∈ ps, ∀ H', Same H1 H' → ∀ Qt : Bool → Hp → Prop, (∀ H'', Same H' H'' → Qt (pb q) H'') → tt (some (.int (q.1 : Int)) :: some (.int (q.2 : Int)) :: frV fr σ) H' Qt)
    (fin : ∀ D ys H', H1 D = none → Same H1 H' → H' D = some (.lst ys) → Prs H' ys (ps.filter pb) → Q (.ref D) H') :
    CompG K 2 fr (gTup K 2 (gCons (gName 0) (gCons (gName 1) gNil))) tt (tTup (tCons (tVar 0) (tCons (tVar 1) tNil))) σ H1 Q a := by
  refine comp_listG (xs := xs) (fun D i ys H' => Same H1 H' ∧ Prs H' ys ((ps.take i).filter pb)) hz (fun D hD => ⟨same_new hD, Prs.nil⟩) (fun D i ys H' hD ⟨s, _⟩ => s.seq ha)
    (fun D i x ys H' o N hD hx ho ⟨s, hP⟩ hd hys kT kF => ?_) (fun D ys H' hD ⟨s, hP⟩ e => fin D ys H' hD s e (by
      rw [hp.len, List.take_length] at hP
      exact hP))
  obtain ⟨t, q, rfl, eq, et⟩ := hp.get hx
  have hm : q ∈ ps := List.mem_of_getElem? eq
  match o, ho with
  | [o1, o2], _ =>
    refine ⟨t, _, rfl, SqT.of (s _ _ et), rfl, _, _, rfl, _, _, rfl, rfl, ?_⟩
    refine ht q hm H' s _ fun H4 s4 => ?_
    have eqf := filter_take_snoc pb eq
    cases hb : pb q with
    | true =>
      rw [hb, if_pos rfl] at eqf
      refine iteT ⟨_, rfl, _, rfl, (by show 2 ≤ sizeLine; decide), fun p hp' => ?_⟩
      have sp := same_new (o := .tup [.int (q.1 : Int), .int (q.2 : Int)]) hp'
      have s5 := s4.trans sp
      refine ⟨ys, s5 _ _ hd, hys, kT [some (.int (q.1 : Int)), some (.int (q.2 : Int))] (.ref p) _ rfl ⟨?_, ?_⟩⟩
      · exact (s.trans s5).put2 hD
      · rw [eqf]
        have hpD : p ≠ D := (ne_of_none (s4 _ _ hd) hp').symm
        have P5 := hP.same s5
        have e5 : upd H4 p (.tup [.int (q.1 : Int), .int (q.2 : Int)]) p = some (.tup [.int (q.1 : Int), .int (q.2 : Int)]) := upd_same
        have ed5 := s5 _ _ hd
        generalize upd H4 p (.tup [.int (q.1 : Int), .int (q.2 : Int)]) = H5 at P5 e5 ed5
        have TS : RC.TSame H5 (upd H5 D (.lst (ys ++ [V.ref p]))) := fun b zs e => by
          rw [upd_ne (ne_of e ed5 (by intro z; cases z))]
          exact e
        exact (P5.tsame TS).snoc (TS _ _ e5)
    | false =>
      rw [hb, if_neg (by decide)] at eqf
      refine iteF (kF [some (.int (q.1 : Int)), some (.int (q.2 : Int))] H4 rfl (s4 _ _ hd) ⟨s.trans s4, ?_⟩)
      rw [eqf]
      exact hP.same s4
end L2
namespace K
open PySem L2 RC
structure TxtN (K : PySem.W.Frag) (mg : Str → Option Value) (aN : Addr) : Prop where
  mgN : mg "WORDS_OF_NAMES" = some (.ref aN)
  tN : ∀ H : Hp, SqT K H aN [.str "read", .str "write"]
theorem inV_rw (w : Str) : inV (.str w) [.str "read", .str "write"] = decide (w = W.read ∨ w = W.write) := by
  have := inV_strs w ["read", "write"]
  rw [show ([V.str "read", V.str "write"] : List V) = (["read", "write"] : List Str).map V.str from rfl, this]
  rw [Bool.eq_iff_iff, decide_eq_true_iff, decide_eq_true_iff]
  simp [W.read, W.write]
def tup3 (d : Deed) : HO := .tup [.int d.1, .str d.2.1, .int d.2.2]
def tch (d : Deed) (x : Int) : Prop := (d.2.1 = W.read ∨ d.2.1 = W.write) ∧ d.2.2 = x
instance (d : Deed) (x : Int) : Decidable (tch d x) := by unfold tch; infer_instance
def spTch : Sp := fun vs H Q _ => ∃ (r : Addr) (d : Deed) (x : Int), vs = [.ref r, .int x] ∧ H r = some (tup3 d) ∧ Q (.bl (decide (tch d x))) H
section
variable {P : Program} {w : World} {K : PySem.W.Frag} {mg : Str → Option Value} {base : Heap}
theorem scTch : FnScope ["deed", "name"] ["deed", "name"] (defScope s_touches) := ⟨rfl, rfl, rfl, by decide +kernel, rfl, by decide +kernel, by decide +kernel⟩
theorem ok_tch {f aN : Addr} {fd : FuncData} (F : Fun K "touches" "touches" s_touches f fd) (N : TxtN K mg aN) : FnOk P w K mg base CX0 1 f fd ["deed", "name"] spTch := by
  refine F.ok scTch (fun vs H Q E h => ?_) (fun cdv A outer s H vs Q E hr h => ?_)
  · obtain ⟨r, d, x, rfl, _⟩ := h
    rfl
  · obtain ⟨r, ⟨t, wd, y⟩, x, rfl, er, k⟩ := h
    have er : H r = some (.tup [.int t, .str wd, .int y]) := er
    refine ⟨_, pss_one (ps_ret (pe_and (pe_cmpR op_in_seq (pe_ix ix_tup (pv 0) pe_int (fun _ _ => rfl)) (pe_glob rfl N.mgN (v := .ref aN) rfl) (by with_unfolding_all rfl)) (pe_one (pe_cmpR op_eq (pe_ix ix_tup (pv 0) pe_int (fun _ _ => rfl)) (pv 1) (nomark _))))), ?_⟩
    refine ⟨_, rfl, r, _, _, .str wd, rfl, rfl, SqT.of er, rfl, aN, _, rfl, .inr (N.tN H), rfl, rfl, _, rfl, ?_⟩
    show if (inV (.str wd) _) = true then _ else _
    rw [inV_rw]
    by_cases h : wd = W.read ∨ wd = W.write
    · rw [decide_eq_true h]
      refine iteT ⟨_, rfl, r, _, _, .int y, rfl, rfl, SqT.of er, rfl, _, rfl, rfl, ?_⟩
      rw [dec_int']
      rw [show decide (tch (t, wd, y) x) = decide (y = x) by
        rw [Bool.eq_iff_iff, decide_eq_true_iff, decide_eq_true_iff]
        exact ⟨fun q => q.2, fun q => ⟨h, q⟩⟩] at k
      exact k
    · rw [decide_eq_false h]
      rw [decide_eq_false (p := tch (t, wd, y) x) (fun z => h z.1)] at k
      exact iteF k
end
end K
namespace K
open PySem L2 RC
def spOdds : Sp := fun vs H Q _ => ∃ (r s : Addr) (d e : Deed), vs = [.ref r, .ref s] ∧ H r = some (tup3 d) ∧ H s = some (tup3 e) ∧ Q (.bl (decide (clash d e))) H
def spPao (CR : Addr) : Sp := fun vs H Q _ => ∃ (p : Addr) (m : Int) (xs : List V) (ds : List Deed), vs = [.ref p] ∧ RowAt CR H p m xs ∧ Deeds H xs ds ∧ ds.length ≤ 60 ∧
  ∀ (r : Addr) (vs : List V) (H' : Hp), Same H H' → H r = none → H' r = some (.lst vs) → Prs H' vs (allP (fun a b => decide (clash (dAt ds a) (dAt ds b))) ds.length ds.length) → Q (.ref r) H'
abbrev nPao : List Str := ["row", "told", "one", "other"]
theorem clash_iff {d e : Deed} : clash d e ↔ d.1 ≠ e.1 ∧ (d.2.1 = W.write ∨ e.2.1 = W.write) ∧ tch d e.2.2 ∧ tch e d.2.2 := by
  unfold clash tch
  constructor
  · rintro ⟨h1, h2, h3⟩
    refine ⟨h1, ?_, ?_, ?_⟩
    · rcases h3 with h | h
      · exact .inl h.1
      · exact .inr h.1
    · refine ⟨?_, h2⟩
      rcases h3 with h | h
      · exact .inr h.1
      · exact h.2
    · refine ⟨?_, h2.symm⟩
      rcases h3 with h | h
      · exact h.2
      · exact .inr h.1
  · rintro ⟨h1, h2, ⟨h3, h4⟩, h5, _⟩
    refine ⟨h1, h4, ?_⟩
    rcases h2 with h | h
    · exact .inl ⟨h, h5⟩
    · exact .inr ⟨h, h3⟩
section
variable {P : Program} {w : World} {K : PySem.W.Frag} {mg : Str → Option Value} {base : Heap}
theorem scOdds : FnScope ["one", "other"] ["one", "other"] (defScope s_at_odds) := ⟨rfl, rfl, rfl, by decide +kernel, rfl, by decide +kernel, by decide +kernel⟩
theorem ok_odds {f fT : Addr} {fd fdT : FuncData} (F : Fun K "at_odds" "at_odds" s_at_odds f fd)
    (GT : FnOk P w K mg base CX0 1 fT fdT ["deed", "name"] spTch) (cT : Cal K mg "touches" fT fdT ["deed", "name"]) : FnOk P w K mg base CX0 2 f fd ["one", "other"] spOdds := by
  refine F.ok scOdds (fun vs H Q E h => ?_) (fun cdv A outer s H vs Q E hr h => ?_)
  · obtain ⟨r, s, d, e, rfl, _⟩ := h
    rfl
  · obtain ⟨r, s, ⟨t, wd, y⟩, ⟨u, we, z⟩, rfl, er, es, k⟩ := h
    have er : H r = some (.tup [.int t, .str wd, .int y]) := er
    have es : H s = some (.tup [.int u, .str we, .int z]) := es
    refine ⟨_, pss_cons (ps_if (pt_cmpR op_eq (pe_ix ix_tup (pv 0) pe_int (fun _ _ => rfl)) (pe_ix ix_tup (pv 1) pe_int (fun _ _ => rfl)) (nomark _)) (pss_one (ps_ret pe_bl)) pss_nil)
      (pss_cons (ps_if (PW.pt (pw_and (pt_cmpR op_ne (pe_ix ix_tup (pv 0) pe_int (fun _ _ => rfl)) pe_str (nomark _)) (pw_and1 (pt_cmpR op_ne (pe_ix ix_tup (pv 1) pe_int (fun _ _ => rfl)) pe_str (nomark _))))) (pss_one (ps_ret pe_bl)) pss_nil)
      (pss_one (ps_ret (pe_and (pe_call GT hr rfl cT.mgf cT.kp cT.b .nil pass0 (pa_cons (pv 0) (pa_cons (pe_ix ix_tup (pv 1) pe_int (fun _ _ => rfl)) pa_nil))) (pe_one (pe_call GT hr rfl cT.mgf cT.kp cT.b .nil pass0 (pa_cons (pv 1) (pa_cons (pe_ix ix_tup (pv 0) pe_int (fun _ _ => rfl)) pa_nil)))))))), ?_⟩
    have no : ¬ clash (t, wd, y) (u, we, z) → Q (.bl false) H := fun q => by rw [decide_eq_false q] at k; exact k
    refine PuT.ret (c := t = u) (fun Qt q => ⟨_, rfl, r, _, _, .int t, rfl, rfl, SqT.of er, rfl, _, rfl, s, _, _, .int u, rfl, rfl, SqT.of es, rfl, rfl, _, rfl, by rw [dec_int']; exact q⟩) (fun c => ?_) (fun c => ?_)
    · exact no (fun q => q.1 c)
    refine PuT.ret (c := wd ≠ W.write ∧ we ≠ W.write) ((PuT.and (a := !decide (wd = W.write)) (b := !decide (we = W.write)) (fun Qt q => ⟨_, rfl, r, _, _, .str wd, rfl, rfl, SqT.of er, rfl, rfl, _, rfl, by rw [dec_str']; exact q⟩) (fun _ Qt q => ⟨_, rfl, s, _, _, .str we, rfl, rfl, SqT.of es, rfl, rfl, _, rfl, by rw [dec_str']; exact q⟩)).iff (by simp)) (fun c2 => ?_) (fun c2 => ?_)
    · exact no (fun q => (clash_iff.mp q).2.1.elim c2.1 c2.2)
    have c2 : wd = W.write ∨ we = W.write := by
      by_cases q : wd = W.write
      · exact .inl q
      · exact .inr (Classical.byContradiction fun q2 => c2 ⟨q, q2⟩)
    refine ⟨_, rfl, _, rfl, s, _, _, .int z, rfl, rfl, SqT.of es, rfl, r, (t, wd, y), z, rfl, er, _, rfl, ?_⟩
    by_cases h1 : tch (t, wd, y) z
    · rw [decide_eq_true h1]
      refine iteT ⟨_, rfl, _, rfl, r, _, _, .int y, rfl, rfl, SqT.of er, rfl, s, (u, we, z), y, rfl, es, ?_⟩
      have e : decide (tch (u, we, z) y) = decide (clash (t, wd, y) (u, we, z)) := by
        rw [Bool.eq_iff_iff, decide_eq_true_iff, decide_eq_true_iff, clash_iff]
        exact ⟨fun q => ⟨c, c2, h1, q⟩, fun q => q.2.2.2⟩
      rw [e]
      exact k
    · rw [decide_eq_false h1]
      exact iteF (no (fun q => h1 (clash_iff.mp q).2.2.1))
theorem scPao : FnScope nPao ["row"] (defScope s_pairs_at_odds) := ⟨rfl, rfl, rfl, by decide +kernel, rfl, by decide +kernel, by decide +kernel⟩
theorem small4000 {n : Nat} (h : n ≤ 4000) : n < sizeLine := Nat.lt_of_le_of_lt h (by decide)
theorem ok_pao {f C aW aT CR fO fD : Addr} {fd fdO fdD : FuncData} (F : Fun K "pairs_at_odds" "pairs_at_odds" s_pairs_at_odds f fd) (T : Txt K mg C aW aT) (R : TxtR K mg CR)
    (GO : FnOk P w K mg base CX0 2 fO fdO ["one", "other"] spOdds) (cO : Cal K mg "at_odds" fO fdO ["one", "other"])
    (GD : FnOk P w K mg base CX0 1 fD fdD ["self", "place"] (spDeed CR)) (bD : Binds K fdD ["self", "place"] []) (mD : Meth K CR "deed" fD) : FnOk P w K mg base CX0 3 f fd ["row"] (spPao CR) := by
  refine F.ok scPao (fun vs H Q E h => ?_) (fun cdv A outer s H vs Q E hr h => ?_)
  · obtain ⟨p, m, xs, ds, rfl, _⟩ := h
    rfl
  · obtain ⟨p, m, xs, ds, rfl, hR, hds, hlen, k⟩ := h
    have nd := scPao.nd
    have hr1 : Room 1 _ := hr.mono (by decide)
    have hxl := hds.len
    refine ⟨_, pss_cons (ps_set (i := 1) nd rfl (Or.inl rfl) (pe_lst pa_nil))
      (pss_cons (ps_for PassesOwn.never rfl (pi_range1 rfl T.rng (pa_cons (pe_fld (pv 0) rfl) pa_nil)) (pg_name (i := 2) nd rfl (Or.inl rfl))
        (pss_one (ps_for PassesOwn.never rfl (pi_range2 rfl T.rng (pa_cons (pe_op op_add (pv 2) pe_int) (pa_cons (pe_fld (pv 0) rfl) pa_nil))) (pg_name (i := 3) nd rfl (Or.inl rfl))
          (pss_one (ps_if (pt_val (pe_call GO hr rfl cO.mgf cO.kp cO.b .nil pass0 (pa_cons (pe_meth (pv 0) R.cl mD GD hr1 bD .nil pass0 (pa_cons (pv 2) pa_nil)) (pa_cons (pe_meth (pv 0) R.cl mD GD hr1 bD .nil pass0 (pa_cons (pv 3) pa_nil)) pa_nil))))
            (pss_one (ps_expr (pe_bm PySem.F.plainAttrs_list PySem.F.slot_list_append PySem.F.type_list_append mt_append (pv 1) (pa_cons (pe_tup (pa_cons (pv 2) (pa_cons (pv 3) pa_nil))) pa_nil)))) pss_nil)))))
      (pss_one (ps_ret (pv 1)))), ?_⟩
    refine ⟨Nat.zero_le _, fun ta nta => ?_⟩
    dsimp only [gName]
    have s1 := same_new (o := .lst []) nta
    have e1 : upd H ta (.lst []) ta = some (.lst []) := upd_same
    generalize upd H ta (.lst []) = H1 at s1 e1
    obtain ⟨dx, tp, o1, o2⟩ := id hR.ex
    have cp : ∀ a b : Nat, (fun a b => decide (clash (dAt ds a) (dAt ds b))) a b = decide (clash (dAt ds a) (dAt ds b)) := fun _ _ => rfl
    generalize hp : (fun a b => decide (clash (dAt ds a) (dAt ds b))) = pb at k cp
    refine ⟨_, rfl, p, CR, dx, _, _, rfl, s1 _ _ o1, R.cl, R.nS, rflds_s _ _ _, _, rfl, by omega, by omega, for_range (lo := 0) (n := ((xs.length : Nat) : Int).toNat) (fun i σ H2 => ∃ (vs : List V) (v2 v3 : Option V), σ = [some (.ref p), some (.ref ta), v2, v3] ∧ Same H H2 ∧ H2 ta = some (.lst vs) ∧ Prs H2 vs (allP pb ds.length i))
      ⟨[], none, none, rfl, s1, e1, Prs.nil⟩ ?_ ?_⟩
    · rintro i σ H2 hi ⟨vs, v2, v3, rfl, s2, e2, P2⟩
      have hi' : i < xs.length := by simpa using hi
      have hid : i < ds.length := by omega
      have e0 : (0 : Int) + (i : Int) = (i : Int) := by omega
      rw [e0]
      dsimp only [gName]
      refine ⟨_, rfl, _, _, rfl, rfl, _, rfl, p, CR, dx, _, _, rfl, s2 _ _ o1, R.cl, R.nS, rflds_s _ _ _, _, _, rfl, ?_⟩
      refine ⟨⟨by omega, by omega, by omega, by omega⟩, for_range (lo := (i : Int) + 1) (n := ((xs.length : Int) - ((i : Int) + 1)).toNat) (fun j σ H3 => ∃ (vs : List V) (v3 : Option V), σ = [some (.ref p), some (.ref ta), some (.int (i : Int)), v3] ∧ Same H H3 ∧ H3 ta = some (.lst vs) ∧ Prs H3 vs (allP pb ds.length i ++ rowP pb i j))
        ⟨vs, v3, rfl, s2, e2, by rw [rowP_zero, List.append_nil]; exact P2⟩ ?_ ?_⟩
      · rintro j σ H3 hj ⟨vs, v3, rfl, s3, e3, P3⟩
        have hj' : i + 1 + j < ds.length := by omega
        have e0 : (i : Int) + 1 + (j : Int) = ((i + 1 + j : Nat) : Int) := by omega
        rw [e0]
        dsimp only [gName]
        have hR3 := hR.same s3
        obtain ⟨r1, ex1, er1⟩ := (hds.same s3).ref hid
        obtain ⟨r2, ex2, er2⟩ := (hds.same s3).ref hj'
        refine PuT.if1 (c := pb i (i + 1 + j) = true) (fun Qt q => ⟨_, rfl, p, dx, _, rfl, s3 _ _ o1, rflds_no _ _ _ (by decide +kernel) (by decide +kernel) (by decide +kernel), _, rfl, p, m, xs, i, .ref r1, rfl, hR3, ex1,
            _, rfl, p, dx, _, rfl, s3 _ _ o1, rflds_no _ _ _ (by decide +kernel) (by decide +kernel) (by decide +kernel), _, rfl, p, m, xs, i + 1 + j, .ref r2, rfl, hR3, ex2, r1, r2, dAt ds i, dAt ds (i + 1 + j), rfl, er1, er2, _, rfl, by
              rw [← cp]
              cases hb : pb i (i + 1 + j) with
              | true => rw [hb] at q; exact q
              | false => rw [hb] at q; exact q⟩) (fun z => ?_) (fun z => ?_)
        · refine ⟨_, rfl, .inl ⟨rfl, _, SqL.of e3⟩, _, rfl, _, rfl, (by show 2 ≤ sizeLine; decide), fun u nu => ?_⟩
          have s4 := same_new (o := .tup [.int (i : Int), .int ((i + 1 + j : Nat) : Int)]) nu
          have e4 := s4 _ _ e3
          have P4 := P3.same s4
          have eu : upd H3 u (.tup [.int (i : Int), .int ((i + 1 + j : Nat) : Int)]) u = some (.tup [.int (i : Int), .int ((i + 1 + j : Nat) : Int)]) := upd_same
          have s04 := s3.trans s4
          generalize upd H3 u (.tup [.int (i : Int), .int ((i + 1 + j : Nat) : Int)]) = H4 at s04 e4 P4 eu
          have lv : vs.length ≤ 4000 := by
            have h1 := P3.len
            rw [List.length_append] at h1
            have h2 := allP_len pb ds.length i
            have h3 := rowP_len pb i j
            have h4 : i * ds.length ≤ 60 * 60 := Nat.mul_le_mul (by omega) hlen
            omega
          refine ⟨ta, _, _, rfl, rfl, e4, small4000 lv, ?_⟩
          have TS : RC.TSame H4 (upd H4 ta (.lst (vs ++ [V.ref u]))) := fun b zs e => by
            rw [upd_ne (ne_of e e4 (by intro z; cases z))]
            exact e
          refine ⟨_, _, rfl, s04.put2 nta, upd_same, ?_⟩
          rw [rowP_succ, if_pos z, ← List.append_assoc]
          exact (P4.tsame TS).snoc (q := (i, i + 1 + j)) (TS _ _ eu)
        · refine ⟨vs, _, rfl, s3, e3, ?_⟩
          rw [rowP_succ, if_neg z]
          exact P3
      · rintro σ H3 ⟨vs, v3, rfl, s3, e3, P3⟩
        refine ⟨vs, _, _, rfl, s3, e3, ?_⟩
        rw [allP_succ]
        rw [show ((xs.length : Int) - ((i : Int) + 1)).toNat = ds.length - (i + 1) by omega] at P3
        exact P3
    · rintro σ H2 ⟨vs, v2, v3, rfl, s2, e2, P2⟩
      refine ⟨_, rfl, k ta vs H2 s2 nta e2 ?_⟩
      rw [show ((xs.length : Nat) : Int).toNat = ds.length by omega] at P2
      exact P2
end
end K
namespace K
open PySem L2 RC
structure TxtC (mg : Str → Option Value) : Prop where
  max : mg "max" = none
  zip : mg "zip" = none
theorem boot_max : bootBuiltins "max" = some (.builtin "max") := by decide +kernel
def spJoin (K : PySem.W.Frag) : Sp := fun vs H Q _ => ∃ (a b : Addr) (m : Nat) (c d : Int → Nat), vs = [.ref a, .ref b] ∧ SqL K H a (vecV m c) ∧ SqL K H b (vecV m d) ∧ m ≤ 1000 ∧
  ∀ r H', Same H H' → H r = none → H' r = some (.lst (vecV m fun u => max (c u) (d u))) → Q (.ref r) H'
def spClk (CR : Addr) : Sp := fun vs H Q _ => ∃ (p : Addr) (mn : Nat) (xs : List V) (ds : List Deed), vs = [.ref p] ∧ RowAt CR H p (mn : Int) xs ∧ Deeds H xs ds ∧ 1 ≤ mn ∧ mn ≤ 6 ∧ ds.length ≤ 60 ∧ Fault (mn : Int) ds none ∧
  ∀ (r : Addr) (ts : List Addr) (H' : Hp), Same H H' → H r = none → H' r = some (.lst (ts.map V.ref)) → ts.length = ds.length → ts.Nodup → (∀ j a, ts[j]? = some a → H' a = some (.lst (vecV mn (NC (dAt ds) j))) ∧ H a = none ∧ a ≠ r) → Q (.ref r) H'
theorem ndMY : (["mine", "yours"] : List Str).Nodup := by decide +kernel
theorem ndTR : (["thread", "row"] : List Str).Nodup := by decide +kernel
structure ClkAt (H0 H : Hp) (ra ga ta : Addr) (mn : Nat) (D : Nat → Deed) (i : Nat) (rs ts : List Addr) (kvs : List (Key × V)) : Prop where
  er : H ra = some (.lst (rs.map V.ref))
  eg : H ga = some (.dK kvs)
  et : H ta = some (.lst (ts.map V.ref))
  lr : rs.length = mn
  lt : ts.length = i
  lk : kvs.length ≤ i
  vr : ∀ t : Nat, t < mn → ∃ a, rs[t]? = some a ∧ H a = some (.lst (vecV mn ((csOf (pre D i)).reached (t : Int)))) ∧ a ≠ ra ∧ a ≠ ta
  vg : ∀ x : Int, ((csOf (pre D i)).given x = none ∧ valV kvs (Sum.inl x) = none) ∨ ∃ g a, (csOf (pre D i)).given x = some g ∧ valV kvs (Sum.inl x) = some (.ref a) ∧ H a = some (.lst (vecV mn g)) ∧ a ≠ ra ∧ a ≠ ta
  vt : ∀ j a, ts[j]? = some a → H a = some (.lst (vecV mn (NC D j))) ∧ H0 a = none ∧ a ≠ ra ∧ a ≠ ta
  nd : ts.Nodup
  rt : ra ≠ ta
section
variable {P : Program} {w : World} {K : PySem.W.Frag} {mg : Str → Option Value} {base : Heap}
theorem scJoin : FnScope ["one", "other"] ["one", "other"] (defScope sJoin) := ⟨rfl, rfl, rfl, by decide +kernel, rfl, by decide +kernel, by decide +kernel⟩
theorem ok_join {f : Addr} {fd : FuncData} (F : Fun K "joined" "joined" sJoin f fd) (Z : TxtC mg) : FnOk P w K mg base CX0 1 f fd ["one", "other"] (spJoin K) := by
  refine F.ok scJoin (fun vs H Q E h => ?_) (fun cdv A outer s H vs Q E hr h => ?_)
  · obtain ⟨a, b, m, c, d, rfl, _⟩ := h
    rfl
  · obtain ⟨a, b, m, c, d, rfl, ha, hb, hm, k⟩ := h
    refine ⟨_, pss_one (ps_ret (pe_comp (N := ["mine", "yours"]) (nt := 2) (fr := []) (g := gTup K 2 (gCons (gName 0) (gCons (gName 1) gNil))) rfl
      (.of (XN := ["one", "other"]) (osc := defScope sJoin) rfl rfl rfl (by decide +kernel) (by decide +kernel) (by decide +kernel) rfl (by decide +kernel)) (pi_zip rfl Z.zip (pa_cons (pv 0) (pa_cons (pv 1) pa_nil)))
      (fun _ _ _ _ _ _ => ⟨pg_tup (n := 2) rfl (pgs_cons (pg_name (i := 0) ndMY rfl (Or.inl rfl) (Or.inr rfl)) (pgs_cons (pg_name (i := 1) ndMY rfl (Or.inl rfl) (Or.inr rfl)) pgs_nil)), pif_nil, pe_callB (call_max2 rfl) (by rfl) Z.max boot_max (pa_cons (pv 0) (pa_cons (pv 1) pa_nil))⟩))), ?_⟩
    dsimp only [tRet]
    refine tComp_zip (fun i => V.int ((max (c (i : Int)) (d (i : Int)) : Nat) : Int)) (fun Q' q => ⟨_, rfl, _, rfl, q⟩) ha hb (by rw [vecV_len, vecV_len]) (small1000 (by rw [vecV_len]; exact hm)) (fun i x y H3 Qe hx hy s3 q => ?_) (fun D H' hD s' e => k D H' s' hD ?_)
    · obtain ⟨hi, rfl⟩ := vecV_of hx
      obtain ⟨_, rfl⟩ := vecV_of hy
      refine ⟨_, rfl, _, rfl, _, _, rfl, ?_⟩
      have e : (if ((d (i : Int) : Nat) : Int) > ((c (i : Int) : Nat) : Int) then ((d (i : Int) : Nat) : Int) else ((c (i : Int) : Nat) : Int)) = ((max (c (i : Int)) (d (i : Int)) : Nat) : Int) := by
        split <;> omega
      rw [e]
      exact q _ (Same.refl _)
    · rw [e, vecV_len]
      rfl
end
end K
namespace K
open PySem L2 RC
theorem none_upd' {H : Hp} {a p : Addr} {o : HO} (h : upd H a o p = none) : p ≠ a ∧ H p = none := by
  by_cases e : p = a
  · rw [e, upd_same] at h
    cases h
  · rw [upd_ne e] at h
    exact ⟨e, h⟩
theorem flat_one (m : Nat) : (List.replicate m [V.int 0]).flatten = vecV m (fun _ => 0) := by
  rw [vecV_zero]
  induction m with
  | zero => rfl
  | succ m ih => rw [List.replicate_succ, List.flatten_cons, ih, List.replicate_succ]; rfl
theorem ClkAt.keep {H0 H H' : Hp} {ra ga ta : Addr} {mn : Nat} {D : Nat → Deed} {i : Nat} {rs ts : List Addr} {kvs : List (Key × V)} (s : Same H H') (c : ClkAt H0 H ra ga ta mn D i rs ts kvs) : ClkAt H0 H' ra ga ta mn D i rs ts kvs :=
  ⟨s _ _ c.er, s _ _ c.eg, s _ _ c.et, c.lr, c.lt, c.lk, fun t ht => (c.vr t ht).imp fun a ⟨h1, h2, h3⟩ => ⟨h1, s _ _ h2, h3⟩,
   fun x => (c.vg x).imp id fun ⟨g, a, h1, h2, h3, h4⟩ => ⟨g, a, h1, h2, s _ _ h3, h4⟩, fun j a e => ⟨s _ _ (c.vt j a e).1, (c.vt j a e).2⟩, c.nd, c.rt⟩
theorem ClkAt.next {H0 H2 Hc H' : Hp} {ra ga ta cc : Addr} {mn : Nat} {D : Nat → Deed} {i : Nat} {rs ts rsF : List Addr} {kvs kvF : List (Key × V)} {t : Nat} (c : ClkAt H0 H2 ra ga ta mn D i rs ts kvs) (s2 : Same H0 H2) (sc : Same H2 Hc) (ncc : H2 cc = none)
    (et : (D i).1 = (t : Int)) (ht : t < mn) (hx : (D i).2.1 = W.fork → ∃ x : Nat, (D i).2.2 = (x : Int) ∧ x < mn)
    (e1 : H' ra = some (.lst (rsF.map V.ref))) (e2 : H' ga = some (.dK kvF)) (e3 : ∀ b o, Hc b = some o → b ≠ ra → b ≠ ga → b ≠ cc → H' b = some o) (e4 : H' cc = some (.lst (vecV mn (NC D i))))
    (f1 : rsF = if (D i).2.1 = W.fork then (rs.set t cc).set (D i).2.2.toNat cc else rs.set t cc) (f2 : kvF = if (D i).2.1 = W.give then putK kvs (Sum.inl (D i).2.2) (.ref cc) else kvs) :
    ClkAt H0 (upd H' ta (.lst (ts.map V.ref ++ [.ref cc]))) ra ga ta mn D (i + 1) rsF (ts ++ [cc]) kvF := by
  have n1 : cc ≠ ra := (ne_of_none c.er ncc).symm
  have n2 : cc ≠ ta := (ne_of_none c.et ncc).symm
  have n3 : ga ≠ ta := ne_of c.eg c.et (by intro z; cases z)
  have n4 : ga ≠ ra := ne_of c.eg c.er (by intro z; cases z)
  have hta : H' ta = some (.lst (ts.map V.ref)) := e3 _ _ (sc _ _ c.et) c.rt.symm n3.symm n2.symm
  have old : ∀ {a v}, H2 a = some (.lst v) → a ≠ ra → a ≠ ta → upd H' ta (.lst (ts.map V.ref ++ [.ref cc])) a = some (.lst v) := fun {a v} h h1 h2 => by
    rw [upd_ne h2]
    exact e3 _ _ (sc _ _ h) h1 (ne_of h c.eg (by intro z; cases z)) (ne_of_none h ncc)
  have new : upd H' ta (.lst (ts.map V.ref ++ [.ref cc])) cc = some (.lst (vecV mn (NC D i))) := by rw [upd_ne n2]; exact e4
  have ht' : t < rs.length := by rw [c.lr]; exact ht
  refine ⟨by rw [upd_ne c.rt]; exact e1, by rw [upd_ne n3]; exact e2, by rw [upd_same, List.map_append]; rfl, ?_, by rw [List.length_append, c.lt]; rfl, ?_, fun t' h' => ?_, fun x => ?_, fun j a e => ?_, ?_, c.rt⟩
  · rw [f1]
    split
    · rw [List.length_set, List.length_set, c.lr]
    · rw [List.length_set, c.lr]
  · rw [f2]
    split
    · have := length_putK kvs (Sum.inl (D i).2.2 : Key) (V.ref cc)
      have := c.lk
      omega
    · have := c.lk
      omega
  · have er : (csOf (pre D (i + 1))).reached (t' : Int) = if (D i).2.1 = W.fork ∧ (t' : Int) = (D i).2.2 then NC D i else if (t' : Int) = (D i).1 then NC D i else (csOf (pre D i)).reached (t' : Int) := by
      rw [pre_succ, csOf_snoc]
      rfl
    rw [er]
    have h'' : t' < rs.length := by rw [c.lr]; exact h'
    -- the slot behind the first store
    have one : ∃ a, (rs.set t cc)[t']? = some a ∧ upd H' ta (.lst (ts.map V.ref ++ [.ref cc])) a = some (.lst (vecV mn (if (t' : Int) = (D i).1 then NC D i else (csOf (pre D i)).reached (t' : Int)))) ∧ a ≠ ra ∧ a ≠ ta := by
      by_cases q : (t' : Int) = (D i).1
      · have : t = t' := by rw [et] at q; omega
        subst this
        refine ⟨cc, by rw [List.getElem?_set]; simp [ht'], ?_, n1, n2⟩
        rw [if_pos q]
        exact new
      · have : ¬ t = t' := fun z => q (by rw [et, z])
        obtain ⟨a, h1, h2, h3, h4⟩ := c.vr t' h'
        refine ⟨a, by rw [List.getElem?_set, if_neg this]; exact h1, ?_, h3, h4⟩
        rw [if_neg q]
        exact old h2 h3 h4
    by_cases q : (D i).2.1 = W.fork
    · obtain ⟨x, ex, hxm⟩ := hx q
      rw [f1, if_pos q, ex]
      have hxt : ((x : Int)).toNat = x := rfl
      rw [hxt]
      by_cases q2 : x = t'
      · subst q2
        refine ⟨cc, by rw [List.getElem?_set]; simp [h''], ?_, n1, n2⟩
        rw [if_pos ⟨q, rfl⟩]
        exact new
      · rw [if_neg (fun z => q2 (by have := z.2; omega)), List.getElem?_set, if_neg q2]
        exact one
    · rw [f1, if_neg q, if_neg (fun z => q z.1)]
      exact one
  · have eg : (csOf (pre D (i + 1))).given x = if (D i).2.1 = W.give ∧ x = (D i).2.2 then some (NC D i) else (csOf (pre D i)).given x := by
      rw [pre_succ, csOf_snoc]
      rfl
    rw [eg]
    by_cases q : (D i).2.1 = W.give
    · rw [f2, if_pos q, valV_put]
      by_cases q2 : x = (D i).2.2
      · rw [if_pos ⟨q, q2⟩, if_pos (inl_inj.mpr q2)]
        exact .inr ⟨_, cc, rfl, rfl, new, n1, n2⟩
      · rw [if_neg (fun z => q2 z.2), if_neg (fun z => q2 (inl_inj.mp z))]
        rcases c.vg x with h1 | ⟨g, a, h1, h2, h3, h4, h5⟩
        · exact .inl h1
        · exact .inr ⟨g, a, h1, h2, old h3 h4 h5, h4, h5⟩
    · rw [f2, if_neg q, if_neg (fun z => q z.1)]
      rcases c.vg x with h1 | ⟨g, a, h1, h2, h3, h4, h5⟩
      · exact .inl h1
      · exact .inr ⟨g, a, h1, h2, old h3 h4 h5, h4, h5⟩
  · rcases getElem_snoc e with q | ⟨q1, q2⟩
    · obtain ⟨h1, h2, h3, h4⟩ := c.vt j a q
      exact ⟨old h1 h3 h4, h2, h3, h4⟩
    · rw [q2, q1, c.lt]
      exact ⟨new, s2.free ncc, n1, n2⟩
  · rw [List.nodup_append]
    refine ⟨c.nd, by simp, fun a ha b hb => ?_⟩
    have : b = cc := by simpa using hb
    subst this
    obtain ⟨j, hj⟩ := List.getElem?_of_mem ha
    exact ne_of_none (c.vt j a hj).1 ncc
end K
namespace K
open PySem L2 RC
abbrev nClk : List Str := ["row", "reached", "given", "told", "thread", "word", "thing", "clock"]
section
variable {P : Program} {w : World} {K : PySem.W.Frag} {mg : Str → Option Value} {base : Heap}
theorem scClk : FnScope nClk ["row"] (defScope sClk) := ⟨rfl, rfl, rfl, by decide +kernel, rfl, by decide +kernel, by decide +kernel⟩
theorem ok_clk {f C aW aT CR fJ fR : Addr} {fd fdJ fdR : FuncData} (F : Fun K "clocks" "clocks" sClk f fd) (T : Txt K mg C aW aT) (R : TxtR K mg CR)
    (GJ : FnOk P w K mg base CX0 1 fJ fdJ ["one", "other"] (spJoin K)) (cJ : Cal K mg "joined" fJ fdJ ["one", "other"])
    (GR : FnOk P w K mg base CX0 1 fR fdR ["self"] (spRDs CR)) (bR : Binds K fdR ["self"] []) (mR : Meth K CR "deeds" fR) : FnOk P w K mg base CX0 2 f fd ["row"] (spClk CR) := by
  refine F.ok scClk (fun vs H Q E h => ?_) (fun cdv A outer s H vs Q E hr h => ?_)
  · obtain ⟨p, mn, xs, ds, rfl, _⟩ := h
    rfl
  · obtain ⟨p, mn, xs, ds, rfl, hR, hds, m1, m6, hlen, fa, k⟩ := h
    have nd := scClk.nd
    have hu := hu_of hr
    obtain ⟨dx, tp, e1, e2⟩ := id hR.ex
    have hxl := hds.len
    refine ⟨_, pss_cons (ps_setComp (i := 1) (N := ["thread", "row"]) (nt := 1) (fr := [0]) (te := tOp rRep (tLst (tCons (tC (.int 0)) tNil)) (tFld K (tVar 1) "many")) nd rfl (Or.inl rfl) rfl
          (.of (XN := nClk) (osc := defScope sClk) rfl rfl rfl (by decide +kernel) (by decide +kernel) (by decide +kernel) rfl (by decide +kernel)) (pi_range1 rfl T.rng (pa_cons (pe_fld (pv 0) rfl) pa_nil))
          (fun _ _ _ _ _ _ => ⟨pg_name (i := 0) ndTR rfl (Or.inl rfl), pif_nil, pe_op op_rep (pe_lst (pa_cons pe_int pa_nil)) (pe_fld (pv 1) rfl)⟩))
      (pss_cons (ps_set (i := 2) nd rfl (Or.inl rfl) pe_dnewK)
      (pss_cons (ps_set (i := 3) nd rfl (Or.inl rfl) (pe_lst pa_nil))
      (pss_cons (ps_for PassesOwn.never rfl (pi_list (pe_meth0 (pv 0) R.cl mR GR hr bR .nil pass0)) (pg_tup rfl (pgs_cons (pg_name (i := 4) nd rfl (Or.inl rfl)) (pgs_cons (pg_name (i := 5) nd rfl (Or.inl rfl)) (pgs_cons (pg_name (i := 6) nd rfl (Or.inl rfl)) pgs_nil))))
        (pss_cons (ps_set (i := 7) nd rfl (Or.inl rfl) (pe_callTy call_list_of rfl T.lst bList (pa_cons (pe_ix ix_list (pv 1) (pv 4) (fun _ _ => rfl)) pa_nil)))
        (pss_cons (ps_if (PW.pt (pw_and (pt_cmpR op_eq (pv 5) pe_str (nomark _)) (pw_and1 (pt_cmp (pc_din hu (pv 6) (pv 2)))))) (pss_one (ps_set (i := 7) nd rfl (Or.inl rfl) (pe_call GJ hr rfl cJ.mgf cJ.kp cJ.b .nil pass0 (pa_cons (pv 7) (pa_cons (pe_dget hu (pv 2) (pv 6) (fun _ _ => rfl)) pa_nil))))) pss_nil)
        (pss_cons (ps_if (pt_cmpR op_eq (pv 5) pe_str (nomark _)) (pss_one (ps_set (i := 7) nd rfl (Or.inl rfl) (pe_call GJ hr rfl cJ.mgf cJ.kp cJ.b .nil pass0 (pa_cons (pv 7) (pa_cons (pe_ix ix_list (pv 1) (pv 6) (fun _ _ => rfl)) pa_nil))))) pss_nil)
        (pss_cons (ps_augS (pv 7) (pv 4) get_list pe_int ip_add set_list)
        (pss_cons (ps_asg (pv 7) (pg_sub (pv 1) (pv 4) set_list))
        (pss_cons (ps_if (pt_cmpR op_eq (pv 5) pe_str (nomark _)) (pss_one (ps_dput hu (pv 2) (pv 6) (pv 7) rfl)) pss_nil)
        (pss_cons (ps_if (pt_cmpR op_eq (pv 5) pe_str (nomark _)) (pss_one (ps_asg (pv 7) (pg_sub (pv 1) (pv 6) set_list))) pss_nil)
        (pss_one (ps_expr (pe_bm PySem.F.plainAttrs_list PySem.F.slot_list_append PySem.F.type_list_append mt_append (pv 3) (pa_cons (pv 7) pa_nil))))))))))))
      (pss_one (ps_ret (pv 3)))))), ?_⟩
    refine setComp_range (n := mn) (fun D i ys H' => ∃ rs : List Addr, ys = rs.map V.ref ∧ rs.length = i ∧ Same H H' ∧ ∀ (t : Nat) (a : Addr), rs[t]? = some a → H' a = some (.lst (vecV mn (fun _ => 0))) ∧ a ≠ D ∧ H a = none)
      (fun Q' q => ⟨_, rfl, p, CR, dx, _, _, rfl, e1, R.cl, R.nM, rflds_m _ _ _, q⟩) (by omega) (fun D hD => ⟨[], rfl, rfl, same_new hD, fun t a e => by simp at e⟩) (fun D hD i ys H' N hi ⟨rs, ey, lr, s', hv⟩ hd hys kT kF => ?_) (fun ra hra ys H1 ⟨rs, ey, lr, s1, hv⟩ era => ?_)
    · dsimp only [tYes]
      rw [if_pos rfl]
      refine ⟨(by show 1 ≤ sizeLine; decide), fun l0 nl0 => ?_⟩
      have s0 := same_new (o := .lst [V.int 0]) nl0
      refine ⟨_, rfl, p, CR, dx, _, _, rfl, (s'.trans s0) _ _ e1, R.cl, R.nM, rflds_m _ _ _, l0, (mn : Int), _, rfl, rfl, upd_same, by omega, by omega, (by show 1 * _ ≤ _; exact Nat.le_of_lt (small1000 (by omega))), fun q nq => ?_⟩
      have s2 := s0.trans (same_new (o := .lst (List.replicate ((mn : Int)).toNat [V.int 0]).flatten) nq)
      refine ⟨ys, s2 _ _ hd, hys, kT (.ref q) _ ⟨rs ++ [q], ?_, by rw [List.length_append, lr]; rfl, ?_, fun t a e => ?_⟩⟩
      · rw [ey, List.map_append]; rfl
      · exact (s'.trans s2).put2 hD
      · have hqD : q ≠ D := (ne_of_none (s0 _ _ hd) nq).symm
        rcases getElem_snoc e with z | ⟨z1, z2⟩
        · obtain ⟨h1, h2, h3⟩ := hv t a z
          exact ⟨by rw [upd_ne h2]; exact s2 _ _ h1, h2, h3⟩
        · subst z2
          refine ⟨?_, hqD, (s'.trans s0).free nq⟩
          rw [upd_ne hqD, upd_same]
          show some (HO.lst (List.replicate mn [V.int 0]).flatten) = _
          rw [flat_one]
    dsimp only
    refine fun ga nga => ?_
    dsimp only [gName]
    refine ⟨Nat.zero_le _, fun ta nta => ?_⟩
    dsimp only [gName]
    obtain ⟨n_ta_ga, nta1⟩ := none_upd' nta
    have s2 : Same H1 (upd (upd H1 ga (.dK [])) ta (.lst [])) := (same_new nga).put2 nta1
    have s02 := s1.trans s2
    refine ⟨_, rfl, p, dx, _, rfl, s02 _ _ e1, rflds_no _ _ _ (by decide +kernel) (by decide +kernel) (by decide +kernel), p, (mn : Int), xs, rfl, hR.same s02, fun l nl => ?_⟩
    have n_ra_ta : ra ≠ ta := ne_of_none era nta1
    have C0 : ClkAt H (upd (upd H1 ga (.dK [])) ta (.lst [])) ra ga ta mn (dAt ds) 0 rs [] [] :=
      ⟨by rw [s2 _ _ era, ey], by rw [upd_ne n_ta_ga.symm, upd_same], upd_same, lr, rfl, Nat.le_refl _, fun t ht => by
        have ht' : t < rs.length := by omega
        obtain ⟨h1, h2, h3⟩ := hv t rs[t] (by simp [ht'])
        exact ⟨rs[t], by simp [ht'], s2 _ _ h1, h2, ne_of_none h1 nta1⟩, fun x => .inl ⟨rfl, rfl⟩, fun j a e => by simp at e, by simp, n_ra_ta⟩
    have s3 := same_new (o := .lst xs) nl
    have C1 := C0.keep s3
    have el : upd (upd (upd H1 ga (.dK [])) ta (.lst [])) l (.lst xs) l = some (.lst xs) := upd_same
    have s03 := s02.trans s3
    have n_l_ra : l ≠ ra := (ne_of_none C0.er nl).symm
    have n_l_ta : l ≠ ta := (ne_of_none C0.et nl).symm
    have hga0 : H ga = none := s1.free nga
    have hta0 : H ta = none := s1.free nta1
    generalize upd (upd (upd H1 ga (.dK [])) ta (.lst [])) l (.lst xs) = H3 at s03 C1 el
    clear C0 s3 s2 s02 nl
    refine ⟨l, rfl, ⟨_, SqL.of el⟩, for_list (K := K) (a := l) (xs := xs) (fun i σ H2 => ∃ (rs ts : List Addr) (kvs : List (Key × V)) (v4 v5 v6 v7 : Option V), σ = [some (.ref p), some (.ref ra), some (.ref ga), some (.ref ta), v4, v5, v6, v7] ∧ Same H H2 ∧ H2 l = some (.lst xs) ∧ ClkAt H H2 ra ga ta mn (dAt ds) i rs ts kvs)
      ⟨rs, [], [], none, none, none, none, rfl, s03, el, C1⟩ (fun i σ H2 _ ⟨_, _, _, _, _, _, _, _, _, e, _⟩ => SqL.of e) ?_ ?_⟩
    · rintro i y σ H2 hi ⟨rs, ts, kvs, v4, v5, v6, v7, rfl, s2, el2, C⟩
      have hil : i < ds.length := by rw [← hxl]; exact (List.getElem?_eq_some_iff.mp hi).1
      obtain ⟨r, t, wd, x, rfl, er, ed⟩ := (hds.same s2).get hi
      have hD : dAt ds i = (t, wd, x) := dAt_of ed
      obtain ⟨⟨t0, tm⟩, x0, xm⟩ := form_of fa hil
      rw [hD] at t0 tm x0 xm
      obtain ⟨tn, rfl⟩ : ∃ n : Nat, t = n := ⟨t.toNat, by have : 0 ≤ t := t0; omega⟩
      have htn : tn < mn := by have : (tn : Int) < mn := tm; omega
      refine ⟨r, _, rfl, SqT.of er, rfl, _, _, rfl, _, _, rfl, _, _, rfl, rfl, ?_⟩
      dsimp only
      obtain ⟨at', ea, eat, na1, na2⟩ := C.vr tn htn
      refine ⟨_, rfl, _, rfl, ra, _, _, .ref at', rfl, rfl, SqL.of C.er, atI_nat (by rw [List.getElem?_map, ea]; rfl), at', _, rfl, .inl (SqL.of eat), fun c0 nc0 => ?_⟩
      dsimp only [gName]
      have wdd : ∀ (lw : Str) (Hh : Hp) (Qt : Bool → Hp → Prop), Qt (decide (wd = lw)) Hh → Qt (decide (V.str wd = V.str lw)) Hh := fun lw Hh Qt q => by rw [dec_str']; exact q
      have s3 := same_new (o := .lst (vecV mn ((csOf (pre (dAt ds) i)).reached (tn : Int)))) nc0
      -- a take
      refine PuT.ifsJ (c := wd = W.take ∧ (valV kvs (Sum.inl x)).isSome = true) (fun σ' H' => ∃ cc, σ' = [some (.ref p), some (.ref ra), some (.ref ga), some (.ref ta), some (.int (tn : Int)), some (.str wd), some (.int x), some (.ref cc)] ∧ Same H2 H' ∧ H2 cc = none ∧ H' cc = some (.lst (vecV mn (clk1 (csOf (pre (dAt ds) i)) ((tn : Int), wd, x)))))
        ((PuT.and (a := decide (wd = W.take)) (b := (valV kvs (Sum.inl x)).isSome) (fun Qt q => ⟨_, rfl, rfl, _, rfl, wdd _ _ Qt q⟩) (fun _ Qt q => ⟨_, rfl, _, rfl, ga, _, rfl, DGet.k (k := Sum.inl x) (s3 _ _ C.eg), _, rfl, q⟩)).iff (by simp)) (fun z N hN => ?_) (fun z => ?_) ?_
      · rcases C.vg x with ⟨_, h2⟩ | ⟨g, ag, h1, h2, h3, h4, h5⟩
        · rw [h2] at z; cases z.2
        · refine ⟨_, rfl, _, rfl, _, rfl, ga, .ref ag, rfl, by rw [← h2]; exact DGet.k (k := Sum.inl x) (s3 _ _ C.eg), c0, ag, mn, _, g, rfl, SqL.of upd_same, SqL.of (s3 _ _ h3), by omega, fun r2 H4 s4 nr2 er2 => ?_⟩
          refine hN _ _ ⟨r2, rfl, s3.trans s4, s3.free nr2, ?_⟩
          rw [er2]
          unfold clk1
          dsimp only
          rw [if_pos z.1, h1]
      · refine ⟨c0, rfl, s3, nc0, ?_⟩
        rw [upd_same]
        unfold clk1
        dsimp only
        by_cases z1 : wd = W.take
        · rw [if_pos z1]
          rcases C.vg x with ⟨h1, h2⟩ | ⟨g, ag, h1, h2, h3, h4, h5⟩
          · rw [h1]
          · exact absurd ⟨z1, by rw [h2]; rfl⟩ z
        · rw [if_neg z1]
      rintro σ' H4 ⟨c1, rfl, s4, nc1, ec1⟩
      -- a wait
      refine PuT.ifsJ (c := wd = W.wait) (fun σ' H' => ∃ cc, σ' = [some (.ref p), some (.ref ra), some (.ref ga), some (.ref ta), some (.int (tn : Int)), some (.str wd), some (.int x), some (.ref cc)] ∧ Same H2 H' ∧ H2 cc = none ∧ H' cc = some (.lst (vecV mn (clk2 (csOf (pre (dAt ds) i)) ((tn : Int), wd, x)))))
        (fun Qt q => ⟨_, rfl, rfl, _, rfl, wdd _ _ Qt q⟩) (fun z N hN => ?_) (fun z => ?_) ?_
      · obtain ⟨xn, rfl⟩ : ∃ n : Nat, x = n := ⟨x.toNat, by have : 0 ≤ x := x0; omega⟩
        have hxn : xn < mn := by have : (xn : Int) < mn := xm (.inr z); omega
        obtain ⟨ax, eax, ex, nx1, nx2⟩ := C.vr xn hxn
        refine ⟨_, rfl, _, rfl, _, rfl, ra, _, _, .ref ax, rfl, rfl, SqL.of (s4 _ _ C.er), atI_nat (by rw [List.getElem?_map, eax]; rfl), c1, ax, mn, _, _, rfl, SqL.of ec1, SqL.of (s4 _ _ ex), by omega, fun r2 H5 s5 nr2 er2 => ?_⟩
        refine hN _ _ ⟨r2, rfl, s4.trans s5, s4.free nr2, ?_⟩
        rw [er2]
        unfold clk2
        dsimp only
        rw [if_pos z]
      · refine ⟨c1, rfl, s4, nc1, ?_⟩
        rw [ec1]
        unfold clk2
        dsimp only
        rw [if_neg z]
      rintro σ' H5 ⟨cc, rfl, s5, ncc, ecc⟩
      clear s3 s4 ec1 nc1 nc0
      -- the own number
      have hcn : (vecV mn (clk2 (csOf (pre (dAt ds) i)) ((tn : Int), wd, x)))[tn]? = some (V.int ((clk2 (csOf (pre (dAt ds) i)) ((tn : Int), wd, x) (tn : Int) : Nat) : Int)) := vecV_get htn
      refine ⟨_, rfl, _, rfl, cc, _, tn, _, rfl, rfl, SqL.of ecc, hcn, _, _, rfl, rfl, cc, _, (tn : Int), tn, rfl, rfl, ecc, ?ix, ?_⟩
      case ix =>
        rw [vecV_len]
        unfold ixN
        rw [if_pos (by omega), if_pos (by omega)]
        rfl
      have eNC : (vecV mn (clk2 (csOf (pre (dAt ds) i)) ((tn : Int), wd, x))).set tn (V.int (((clk2 (csOf (pre (dAt ds) i)) ((tn : Int), wd, x) (tn : Int) : Nat) : Int) + 1)) = vecV mn (NC (dAt ds) i) := by
        rw [show (((clk2 (csOf (pre (dAt ds) i)) ((tn : Int), wd, x) (tn : Int) : Nat) : Int) + 1) = ((clk2 (csOf (pre (dAt ds) i)) ((tn : Int), wd, x) (tn : Int) + 1 : Nat) : Int) by omega, vecV_set htn]
        refine vecV_congr fun u hu => ?_
        show _ = clk (csOf (pre (dAt ds) i)) (dAt ds i) u
        rw [hD]
        unfold clk
        dsimp only
        by_cases q : (u : Int) = (tn : Int)
        · rw [if_pos q, if_pos q, q]
        · rw [if_neg q, if_neg q]
      rw [eNC]
      dsimp only
      have n_cc_ra : cc ≠ ra := (ne_of_none C.er ncc).symm
      have n_cc_ga : cc ≠ ga := (ne_of_none C.eg ncc).symm
      have n_cc_ta : cc ≠ ta := (ne_of_none C.et ncc).symm
      have n_ga_ra : ga ≠ ra := ne_of C.eg C.er (by intro z; cases z)
      have n_ga_ta : ga ≠ ta := ne_of C.eg C.et (by intro z; cases z)
      refine ⟨_, rfl, _, rfl, _, rfl, ra, rs.map V.ref, (tn : Int), tn, rfl, rfl, (by rw [upd_ne n_cc_ra.symm]; exact s5 _ _ C.er), ?ix2, ?_⟩
      case ix2 =>
        rw [List.length_map, C.lr]
        unfold ixN
        rw [if_pos (by omega), if_pos (by omega)]
        rfl
      have eset : (rs.map V.ref).set tn (.ref cc) = (rs.set tn cc).map V.ref := by rw [List.map_set]
      rw [eset]
      dsimp only
      -- a give
      refine PuT.ifsJ (c := wd = W.give) (fun σ' H' => σ' = [some (.ref p), some (.ref ra), some (.ref ga), some (.ref ta), some (.int (tn : Int)), some (.str wd), some (.int x), some (.ref cc)] ∧ H' ra = some (.lst ((rs.set tn cc).map V.ref)) ∧ H' ga = some (.dK (if wd = W.give then putK kvs (Sum.inl x) (.ref cc) else kvs)) ∧ H' cc = some (.lst (vecV mn (NC (dAt ds) i))) ∧ ∀ b o, H5 b = some o → b ≠ ra → b ≠ ga → b ≠ cc → H' b = some o)
        (fun Qt q => ⟨_, rfl, rfl, _, rfl, wdd _ _ Qt q⟩) (fun z N hN => ?_) (fun z => ?_) ?_
      · refine ⟨_, rfl, _, rfl, _, rfl, ga, _, rfl, DPut.k (k := Sum.inl x) (by rw [upd_ne n_ga_ra, upd_ne n_cc_ga.symm]; exact s5 _ _ C.eg) (small1000 (by have := C.lk; omega)), ?_⟩
        refine hN _ _ ⟨rfl, by rw [upd_ne n_ga_ra.symm, upd_same], by rw [upd_same, if_pos z], by rw [upd_ne n_cc_ga, upd_ne n_cc_ra, upd_same], fun b o e h1 h2 h3 => by rw [upd_ne h2, upd_ne h1, upd_ne h3]; exact e⟩
      · refine ⟨rfl, upd_same, by rw [upd_ne n_ga_ra, upd_ne n_cc_ga.symm, if_neg z]; exact s5 _ _ C.eg, by rw [upd_ne n_cc_ra, upd_same], fun b o e h1 h2 h3 => by rw [upd_ne h1, upd_ne h3]; exact e⟩
      rintro σ' H6 ⟨rfl, er6, eg6, ec6, k6⟩
      -- a fork
      refine PuT.ifsJ (c := wd = W.fork) (fun σ' H' => σ' = [some (.ref p), some (.ref ra), some (.ref ga), some (.ref ta), some (.int (tn : Int)), some (.str wd), some (.int x), some (.ref cc)] ∧ H' ra = some (.lst ((if wd = W.fork then (rs.set tn cc).set x.toNat cc else rs.set tn cc).map V.ref)) ∧ H' ga = some (.dK (if wd = W.give then putK kvs (Sum.inl x) (.ref cc) else kvs)) ∧ H' cc = some (.lst (vecV mn (NC (dAt ds) i))) ∧ ∀ b o, H5 b = some o → b ≠ ra → b ≠ ga → b ≠ cc → H' b = some o)
        (fun Qt q => ⟨_, rfl, rfl, _, rfl, wdd _ _ Qt q⟩) (fun z N hN => ?_) (fun z => ?_) ?_
      · have hxm : x < mn := xm (.inl z)
        refine ⟨_, rfl, _, rfl, _, rfl, ra, (rs.set tn cc).map V.ref, x, x.toNat, rfl, rfl, er6, ?ix3, ?_⟩
        case ix3 =>
          rw [List.length_map, List.length_set, C.lr]
          unfold ixN
          have : 0 ≤ x := x0
          rw [if_pos this, if_pos hxm]
        refine hN _ _ ⟨rfl, by rw [upd_same, if_pos z]; exact congrArg (fun q => some (HO.lst q)) List.map_set.symm, by rw [upd_ne n_ga_ra]; exact eg6, by rw [upd_ne n_cc_ra]; exact ec6, fun b o e h1 h2 h3 => by rw [upd_ne h1]; exact k6 b o e h1 h2 h3⟩
      · exact ⟨rfl, by rw [if_neg z]; exact er6, eg6, ec6, k6⟩
      rintro σ' H7 ⟨rfl, er7, eg7, ec7, k7⟩
      have et7 : H7 ta = some (.lst (ts.map V.ref)) := k7 _ _ (s5 _ _ C.et) n_ra_ta.symm n_ga_ta.symm n_cc_ta.symm
      refine ⟨_, rfl, .inl ⟨rfl, _, SqL.of et7⟩, _, rfl, ta, _, _, rfl, rfl, et7, small1000 (by rw [List.length_map, C.lt]; omega), ?_⟩
      have C' := C.next (rsF := if wd = W.fork then (rs.set tn cc).set x.toNat cc else rs.set tn cc) (kvF := if wd = W.give then putK kvs (Sum.inl x) (.ref cc) else kvs) s2 s5 ncc (t := tn) (by rw [hD]) htn (fun q => by
          rw [hD] at q ⊢
          have h1 : x < mn := xm (.inl q)
          have h0 : 0 ≤ x := x0
          exact ⟨x.toNat, by show x = _; omega, by omega⟩) er7 eg7 k7 ec7 (by rw [hD]) (by rw [hD])
      refine ⟨_, _, _, _, _, _, _, rfl, ?_, ?_, C'⟩
      · intro b o e
        have n0 : ∀ {z}, H z = none → b ≠ z := fun h => ne_of_none e h
        rw [upd_ne (n0 hta0)]
        exact k7 _ _ (s5 _ _ (s2 _ _ e)) (n0 hra) (n0 hga0) (n0 (s2.free ncc))
      · rw [upd_ne n_l_ta]
        exact k7 _ _ (s5 _ _ el2) n_l_ra (ne_of el2 C.eg (by intro z; cases z)) (ne_of_none el2 ncc)
    · rintro σ H2 ⟨rs, ts, kvs, v4, v5, v6, v7, rfl, s2, el2, C⟩
      refine ⟨_, rfl, ?_⟩
      refine k ta ts H2 s2 hta0 C.et (by rw [C.lt, hxl]) C.nd fun j a e => ?_
      obtain ⟨h1, h2, h3, h4⟩ := C.vt j a e
      exact ⟨h1, h2, h4⟩
end
end K
namespace K
open PySem L2 RC
def CksAt (H : Hp) (r : Addr) (mn : Nat) (ds : List Deed) (ts : List Addr) : Prop := H r = some (.lst (ts.map V.ref)) ∧ ts.length = ds.length ∧ ∀ j a, ts[j]? = some a → H a = some (.lst (vecV mn (NC (dAt ds) j)))
theorem CksAt.same {H H' : Hp} {r : Addr} {mn : Nat} {ds : List Deed} {ts : List Addr} (s : Same H H') (h : CksAt H r mn ds ts) : CksAt H' r mn ds ts :=
  ⟨s _ _ h.1, h.2.1, fun j a e => s _ _ (h.2.2 j a e)⟩
def spRch (CR : Addr) : Sp := fun vs H Q _ => ∃ (p r : Addr) (mn i j : Nat) (xs : List V) (ds : List Deed) (ts : List Addr), vs = [.ref p, .ref r, .int (i : Int), .int (j : Int)] ∧ RowAt CR H p (mn : Int) xs ∧ Deeds H xs ds ∧ Fault (mn : Int) ds none ∧ CksAt H r mn ds ts ∧ i < ds.length ∧ j < ds.length ∧
  Q (.bl (bfb (dAt ds) j i)) H
section
variable {P : Program} {w : World} {K : PySem.W.Frag} {mg : Str → Option Value} {base : Heap}
theorem scRch : FnScope ["row", "told", "one", "other", "thread"] ["row", "told", "one", "other"] (defScope s_reaches) := ⟨rfl, rfl, rfl, by decide +kernel, rfl, by decide +kernel, by decide +kernel⟩
theorem ok_rch {f CR fD : Addr} {fd fdD : FuncData} (F : Fun K "reaches" "reaches" s_reaches f fd) (R : TxtR K mg CR)
    (GD : FnOk P w K mg base CX0 1 fD fdD ["self", "place"] (spDeed CR)) (bD : Binds K fdD ["self", "place"] []) (mD : Meth K CR "deed" fD) : FnOk P w K mg base CX0 2 f fd ["row", "told", "one", "other"] (spRch CR) := by
  refine F.ok scRch (fun vs H Q E h => ?_) (fun cdv A outer s H vs Q E hr h => ?_)
  · obtain ⟨p, r, mn, i, j, xs, ds, ts, rfl, _⟩ := h
    rfl
  · obtain ⟨p, r, mn, i, j, xs, ds, ts, rfl, hR, hds, fa, ⟨er, lt, ht⟩, hi, hj, k⟩ := h
    have nd := scRch.nd
    have hr1 : Room 1 _ := hr.mono (by decide)
    have hN := isN_of fa
    refine ⟨_, pss_cons (ps_if (pt_cmpR op_eq (pv 2) (pv 3) (nomark _)) (pss_one (ps_ret pe_bl)) pss_nil)
      (pss_cons (ps_set (i := 4) nd rfl (Or.inl rfl) (pe_ix ix_tup (pe_meth (pv 0) R.cl mD GD hr1 bD .nil pass0 (pa_cons (pv 2) pa_nil)) pe_int (fun _ _ => rfl)))
      (pss_one (ps_ret (pe_cmpR op_ge (pe_ix ix_list (pe_ix ix_list (pv 1) (pv 3) (fun _ _ => rfl)) (pv 4) (fun _ _ => rfl)) (pe_ix ix_list (pe_ix ix_list (pv 1) (pv 2) (fun _ _ => rfl)) (pv 4) (fun _ _ => rfl)) (nomark _))))), ?_⟩
    refine PuT.ret (c := (i : Int) = (j : Int)) (fun Qt q => ⟨_, rfl, _, rfl, rfl, _, rfl, by rw [dec_int']; exact q⟩) (fun z => ?_) (fun z => ?_)
    · have : i = j := by omega
      subst this
      have q := k
      rw [bfb_false.mpr (fun h => Nat.lt_irrefl _ h.lt)] at q
      exact q
    have nij : i ≠ j := fun e => z (by rw [e])
    obtain ⟨dx, tp, e1, e2⟩ := id hR.ex
    obtain ⟨rd, exd, ed⟩ := hds.ref hi
    refine ⟨_, rfl, p, dx, _, rfl, e1, rflds_no _ _ _ (by decide +kernel) (by decide +kernel) (by decide +kernel), _, rfl, p, (mn : Int), xs, i, .ref rd, rfl, hR, exd, rd, _, _, _, rfl, rfl, SqT.of ed, rfl, ?_⟩
    dsimp only [gName]
    obtain ⟨⟨t0, tm⟩, _⟩ := form_of fa hi
    obtain ⟨tn, etn⟩ : ∃ n : Nat, (dAt ds i).1 = (n : Int) := ⟨(dAt ds i).1.toNat, by omega⟩
    have htn : tn < mn := by omega
    have ha := hN.ahead (k := j) (j := i) hj hi nij
    rw [etn] at ha ⊢
    have hit : i < ts.length := by omega
    have hjt : j < ts.length := by omega
    refine ⟨_, rfl, _, rfl, r, _, _, .ref ts[j], rfl, rfl, SqL.of er, atI_nat (by rw [List.getElem?_map]; simp [hjt]), _, rfl, ts[j], _, _, _, rfl, rfl, SqL.of (ht j ts[j] (by simp [hjt])), atI_nat (vecV_get htn), _, rfl, _, rfl, r, _, _, .ref ts[i], rfl, rfl, SqL.of er, atI_nat (by rw [List.getElem?_map]; simp [hit]), _, rfl, ts[i], _, _, _, rfl, rfl, SqL.of (ht i ts[i] (by simp [hit])), atI_nat (vecV_get htn), _, _, rfl, rfl, ?_⟩
    have e : decide (((NC (dAt ds) i (tn : Int) : Nat) : Int) ≤ ((NC (dAt ds) j (tn : Int) : Nat) : Int)) = bfb (dAt ds) j i := by
      rw [Bool.eq_iff_iff, decide_eq_true_iff, bfb_iff, ha]
      omega
    show Q (.bl (decide _)) H
    rw [e]
    exact k
end
end K
namespace K
open PySem L2 RC
noncomputable def raceB (ds : List Deed) (a b : Nat) : Bool := decide (clash (dAt ds a) (dAt ds b)) && !bfb (dAt ds) b a
noncomputable def racesP (ds : List Deed) : List (Nat × Nat) := allP (raceB ds) ds.length ds.length
def spRaces (CR : Addr) : Sp := fun vs H Q _ => ∃ (p : Addr) (mn : Nat) (xs : List V) (ds : List Deed), vs = [.ref p] ∧ RowAt CR H p (mn : Int) xs ∧ Deeds H xs ds ∧ 1 ≤ mn ∧ mn ≤ 6 ∧ ds.length ≤ 60 ∧ Fault (mn : Int) ds none ∧
  ∀ (r : Addr) (vs : List V) (H' : Hp), Same H H' → H r = none → H' r = some (.lst vs) → Prs H' vs (racesP ds) → Q (.ref r) H'
theorem prs_len {H : Hp} {vs : List V} {p : Nat → Nat → Bool} {n : Nat} (h : Prs H vs (allP p n n)) (hn : n ≤ 60) : vs.length ≤ 4000 := by
  have h1 := h.len
  have h2 := allP_len p n n
  have h4 : n * n ≤ 60 * 60 := Nat.mul_le_mul hn hn
  omega
theorem ndOT : (["one", "other", "row", "told"] : List Str).Nodup := by decide +kernel
section
variable {P : Program} {w : World} {K : PySem.W.Frag} {mg : Str → Option Value} {base : Heap}
theorem scRaces : FnScope ["row", "told"] ["row"] (defScope s_races) := ⟨rfl, rfl, rfl, by decide +kernel, rfl, by decide +kernel, by decide +kernel⟩
theorem ok_races {f CR fK fR fO : Addr} {fd fdK fdR fdO : FuncData} (F : Fun K "races" "races" s_races f fd)
    (GK : FnOk P w K mg base CX0 2 fK fdK ["row"] (spClk CR)) (cK : Cal K mg "clocks" fK fdK ["row"])
    (GR : FnOk P w K mg base CX0 2 fR fdR ["row", "told", "one", "other"] (spRch CR)) (cR : Cal K mg "reaches" fR fdR ["row", "told", "one", "other"])
    (GO : FnOk P w K mg base CX0 3 fO fdO ["row"] (spPao CR)) (cO : Cal K mg "pairs_at_odds" fO fdO ["row"]) : FnOk P w K mg base CX0 4 f fd ["row"] (spRaces CR) := by
  refine F.ok scRaces (fun vs H Q E h => ?_) (fun cdv A outer s H vs Q E hr h => ?_)
  · obtain ⟨p, mn, xs, ds, rfl, _⟩ := h
    rfl
  · obtain ⟨p, mn, xs, ds, rfl, hR, hds, m1, m6, hlen, fa, k⟩ := h
    have nd := scRaces.nd
    have hr2 : Room 2 _ := hr.mono (by decide)
    refine ⟨_, pss_cons (ps_set (i := 1) nd rfl (Or.inr rfl) (pe_call GK hr2 rfl cK.mgf cK.kp cK.b .nil pass0 (pa_cons (pv 0) pa_nil)))
      (pss_one (ps_ret (pe_comp (N := ["one", "other", "row", "told"]) (nt := 2) (fr := [0, 1]) (g := gTup K 2 (gCons (gName 0) (gCons (gName 1) gNil))) (tt := tNot (tB (tCall (spRch CR) [] E0 (tCons (tVar 2) (tCons (tVar 3) (tCons (tVar 0) (tCons (tVar 1) tNil))))))) (te := tTup (tCons (tVar 0) (tCons (tVar 1) tNil))) rfl
              (.of (XN := ["row", "told"]) (osc := defScope s_races) rfl rfl rfl (by decide +kernel) (by decide +kernel) (by decide +kernel) rfl (by decide +kernel)) (pi_list (pe_call GO hr rfl cO.mgf cO.kp cO.b .nil pass0 (pa_cons (pv 0) pa_nil)))
              (fun _ _ _ _ _ _ => ⟨pg_tup rfl (pgs_cons (pg_name (i := 0) ndOT rfl (Or.inl rfl)) (pgs_cons (pg_name (i := 1) ndOT rfl (Or.inl rfl)) pgs_nil)), pif_one (pt_not (pt_val (pe_call GR hr2 rfl cR.mgf cR.kp cR.b .nil pass0 (pa_cons (pv 2) (pa_cons (pv 3) (pa_cons (pv 0) (pa_cons (pv 1) pa_nil))))))), pe_tup (pa_cons (pv 0) (pa_cons (pv 1) pa_nil))⟩)))), ?_⟩
    refine ⟨_, rfl, p, mn, xs, ds, rfl, hR, hds, m1, m6, hlen, fa, fun r ts H1 s1 nr er lt ndt ht => ?_⟩
    dsimp only [gName]
    have CK : CksAt H1 r mn ds ts := ⟨er, lt, fun j a e => (ht j a e).1⟩
    dsimp only [tRet]
    rw [tComp_iff]
    refine ⟨_, rfl, p, (mn : Int), xs, ds, rfl, hR.same s1, hds.same s1, hlen, fun r2 vs H2 s2 nr2 er2 P2 => ?_⟩
    refine ⟨r2, rfl, ⟨_, SqL.of er2⟩, comp_pairs (fun q => !bfb (dAt ds) q.2 q.1) (small4000 (prs_len P2 hlen)) (SqL.of er2) P2 (fun q hq H' s' Qt qt => ?_) (fun D ys H' hD s' e Pq => ?_)⟩
    · obtain ⟨h1, h2, h3, h4⟩ := mem_allP.mp hq
      have s3 := s1.trans (s2.trans s')
      exact ⟨_, rfl, _, rfl, _, rfl, _, rfl, p, r, mn, q.1, q.2, xs, ds, ts, rfl, hR.same s3, hds.same s3, fa, CK.same (s2.trans s'), h1, h3, _, rfl, qt H' (Same.refl _)⟩
    · rw [filter_allP] at Pq
      exact k D ys H' (s1.trans (s2.trans s')) ((s1.trans s2).free hD) e Pq
end
end K
namespace L2
open PySem RC
def datP (q : Nat × Nat) : PyData := .tuple [.int (q.1 : Int), .int (q.2 : Int)]
theorem shaped_pair (q : Nat × Nat) : PySem.SeqAt.shaped (datP q) = true := by
  unfold PySem.SeqAt.shaped datP
  rw [PyData.canLay0, PyData.canLayAll0, PyData.canLayAll0, PyData.canLayAll0]
  simp [PyData.canLay0, PyData.depth, PyData.depthAll]
theorem eqv_pair (q r : Nat × Nat) : PyData.eqv (datP q) (datP r) = decide (q = r) := by
  obtain ⟨a, b⟩ := q
  obtain ⟨c, d⟩ := r
  unfold datP
  rw [Bool.eq_iff_iff, decide_eq_true_iff]
  simp [PyData.eqv, PyData.eqvAll]
  omega
theorem dat_pair {K : PySem.W.Frag} {H : Hp} {t : Addr} {q : Nat × Nat} (h : H t = some (.tup [.int (q.1 : Int), .int (q.2 : Int)])) : DatA K H (.ref t) (datP q) := .tup (SqT.of h) (.cons (.int _) (.cons (.int _) .nil))
end L2
namespace L2
open PySem PySem.Spec PyProof.Rows
end L2
namespace L2
open PySem RC
end L2
namespace L2
open PySem PySem.Spec PyProof.Rows
noncomputable def eqD (h : Heap) (dx : PyData) (u : Value) : Bool := @decide (∃ d as, Reads h u d as ∧ d.canLay0 = true ∧ PyData.eqv d dx = true) (Classical.propDecidable _)
theorem eqD_of {h : Heap} {dx d : PyData} {u : Value} {as : List Addr} (r : Reads h u d as) (c : d.canLay0 = true) : eqD h dx u = PyData.eqv d dx := by
  unfold eqD
  cases e : PyData.eqv d dx with
  | true => exact @decide_eq_true _ (Classical.propDecidable _) ⟨d, as, r, c, e⟩
  | false =>
    refine @decide_eq_false _ (Classical.propDecidable _) fun ⟨d', as', r', c', e'⟩ => ?_
    have := PySem.SeqAt.Reads.unique d d' u as as' c r r'
    subst this
    rw [e] at e'
    cases e'
theorem any_eqD {X : Cx} {pins : List (Addr × Obj)} {σ : St} {H : Hp} {s : Shared} (I : Inv X pins σ H s) {dx : PyData} : ∀ {xs : List V} {ds : List PyData} {us : List Value}, DatAs X.K H xs ds → Vals xs us → PyData.canLayAll0 ds = true →
    us.any (eqD s.heap dx) = ds.any (fun d => PyData.eqv d dx) ∧ ∀ u ∈ us, ∃ d as, Reads s.heap u d as ∧ d.canLay0 = true
  | _, _, _, .nil, .nil, _ => ⟨rfl, fun u hu => by cases hu⟩
  | _, _, _, .cons h hs, .cons r rs, c => by
    rw [PyData.canLayAll0, Bool.and_eq_true] at c
    obtain ⟨as, ra⟩ := reads_of I h r
    obtain ⟨i1, i2⟩ := any_eqD I (dx := dx) hs rs c.2
    refine ⟨by rw [List.any_cons, List.any_cons, i1, eqD_of ra c.1], fun u hu => ?_⟩
    rcases List.mem_cons.mp hu with e | e
    · rw [e]; exact ⟨_, as, ra, c.1⟩
    · exact i2 u e
def rInD (K : PySem.W.Frag) (neg : Bool) : R2 := fun x y H Q => ∃ p xs dx ds, y = .ref p ∧ SqL K H p xs ∧ DatA K H x dx ∧ DatAs K H xs ds ∧ dx.canLay0 = true ∧ PyData.canLayAll0 ds = true ∧ dx.depth ≤ 16 ∧ Q (.bl (if neg then !(ds.any fun d => PyData.eqv d dx) else ds.any fun d => PyData.eqv d dx)) H
theorem mem_eqD {X : Cx} {s : Shared} (hu : X.A.units + 64 < cLine) {dx : PyData} {v : Value} {bs : List Addr} (rb : Reads s.heap v dx bs) (c : dx.canLay0 = true) (hd : dx.depth ≤ 16) {us : List Value} (h : ∀ u ∈ us, ∃ d as, Reads s.heap u d as ∧ d.canLay0 = true) : ∀ u ∈ us, SeqAt.EqAt X.A.in1 s u v (eqD s.heap dx u) := fun u hu' => by
  obtain ⟨d, as, r, cd⟩ := h u hu'
  rw [eqD_of r cd]
  refine PySem.SeqAt.eqAt_reads d dx X.A.in1 s u v as bs r rb cd c ?_
  have : X.A.in1.units ≤ X.A.units + 3 := by
    rw [Around.in1_units]
    omega
  omega
theorem op_notInD {X : Cx} (hu : X.A.units + 64 < cLine) : OpR X (compareOp .NotIn) (rInD X.K true) := by
  intro pins s σ H x y v u Q I rx ry h
  obtain ⟨p, xs, dx, ds, rfl, hq, hx, hs, c, cs, hd, q⟩ := h
  cases ry
  obtain ⟨its, r, pl, hz⟩ := I.list hq
  obtain ⟨bs, rb⟩ := reads_of I hx rx
  obtain ⟨h1, h2⟩ := any_eqD I (dx := dx) hs r cs
  refine SeqAt.notIn_listAt (eqD s.heap dx) pl.isList (fun w hw => mem_eqD hu rb c hd h2 w (by simpa using hw)) ⟨.bl _, H, I, rfl, ?_⟩
  rw [show its.toArray.any (eqD s.heap dx) = its.any (eqD s.heap dx) by simp, h1]
  exact q
end L2
namespace L2
open PySem RC
theorem Prs.dat {K : PySem.W.Frag} {H : Hp} : ∀ {ps : List (Nat × Nat)} {vs : List V}, Prs H vs ps → DatAs K H vs (ps.map datP)
  | [], vs, h => by
    have : vs = [] := List.length_eq_zero_iff.mp h.len
    subst this
    exact .nil
  | q :: ps, vs, h => by
    cases vs with
    | nil => have := h.len; cases this
    | cons v vs =>
      obtain ⟨t, e1, e2⟩ := h.ats 0 q rfl
      cases e1
      refine .cons (dat_pair e2) (Prs.dat ⟨?_, fun k q' e => ?_⟩)
      · have := h.len
        rw [List.length_cons, List.length_cons] at this
        omega
      · exact h.ats (k + 1) q' e
theorem lay_pair (q : Nat × Nat) : PyData.canLay0 (datP q) = true := PySem.SeqAt.canLay_of_shaped (shaped_pair q)
theorem lay_pairs : ∀ ps : List (Nat × Nat), PyData.canLayAll0 (ps.map datP) = true
  | [] => by simp [PyData.canLayAll0]
  | q :: ps => by rw [List.map_cons, PyData.canLayAll0, lay_pair, lay_pairs ps]; rfl
theorem depth_pair (q : Nat × Nat) : (datP q).depth ≤ 16 := by
  unfold datP
  simp [PyData.depth, PyData.depthAll]
theorem any_pairs (ps : List (Nat × Nat)) (q : Nat × Nat) : ((ps.map datP).any fun d => PyData.eqv d (datP q)) = decide (q ∈ ps) := by
  rw [Bool.eq_iff_iff, decide_eq_true_iff, List.any_map, List.any_eq_true]
  constructor
  · rintro ⟨r, hr, e⟩
    have e : PyData.eqv (datP r) (datP q) = true := e
    rw [eqv_pair] at e
    exact (of_decide_eq_true e) ▸ hr
  · intro h
    refine ⟨q, h, ?_⟩
    show PyData.eqv (datP q) (datP q) = true
    rw [eqv_pair]
    exact decide_eq_true rfl
end L2
namespace L2
open PySem PySem.Spec PyProof.Rows
section
variable {P : Program} {w : World} {H : Hp} {h : Heap} {a : Addr} {o : HO}
end
section
variable {P : Program} {w : World} {K : PySem.W.Frag} {mg : Str → Option Value} {base : Heap} {N : List Str} {qual : Str} {scope : Scope} {f : Addr} {cd : Value} {A : Around} {outer : List Env} {s : Shared} {H : Hp} {E : XK}
end
end L2
namespace PySem.W
open PySem PySem.Spec PySem.Calls PyProof.Rows Builtin Builtin.ObjectAttr Builtin.Getset_descriptor
section
variable {prog : Program} {w : World} {A : Around} {E : Value → Shared → Prop} {s : Shared} {K : Frag} {x D : Addr}
end
end PySem.W
namespace L2
open PySem PySem.Spec PyProof.Rows
section
variable {X : Cx} {e : Expr} {es : List Expr} {n m : Nat} {p q : St → Hp → Prop} {pos : Pos}
end
section
variable {P : Program} {w : World} {K : PySem.W.Frag} {mg : Str → Option Value} {base : Heap} {N : List Str} {qual : Str} {scope : Scope} {f : Addr} {cd : Value} {A : Around} {outer : List Env} {s₀ : Shared} {H₀ : Hp} {E : XK}
end
end L2
namespace L2
open PySem PySem.Spec PyProof.Rows
section
variable {X : Cx} {pins : List (Addr × Obj)} {σ : St} {H H' : Hp} {s s' : Shared} {B h' : Heap}
end
section
variable {X : Cx} {CX : CXT} {k : Nat} {f C : Addr} {fd : FuncData} {ps : List Str} {sp : Sp} {dvs : List V} {ds : List Value} {x m : Str} {p pos apos : Pos} {e o : Expr} {es : List Expr} {ta : TE} {t : TA}
end
end L2
namespace L2
open PySem PySem.Spec PyProof.Rows
def Ends.gone (D : Ends) (i : Nat) : Ends := { nx := fun σ H => D.nx (σ.set i none) H, rt := D.rt, bk := fun σ H => D.bk (σ.set i none) H, ct := fun σ H => D.ct (σ.set i none) H }
end L2
namespace L2
open PySem PySem.Spec PyProof.Rows
section
variable {P : Program} {w : World} {K : PySem.W.Frag} {mg : Str → Option Value} {base : Heap}
end
section
variable {P : Program} {w : World} {K : PySem.W.Frag} {mg : Str → Option Value} {base : Heap} {N : List Str} {qual : Str} {scope : Scope} {f : Addr} {cd : Value} {A : Around} {outer : List Env} {s₀ : Shared} {H₀ : Hp} {E : XK}
end
end L2
namespace L2
open PySem PySem.Spec PyProof.Rows
end L2
namespace K
open PySem L2 RC
theorem bMinB : bootBuiltins "min" = some (.builtin "min") := by decide +kernel
theorem bMaxB : bootBuiltins "max" = some (.builtin "max") := by decide +kernel
theorem hu64B {A : Around} {k : Nat} (hr : Room k A) : A.units + 64 < cLine := by have := hr.un; omega
abbrev natsB (l : List Nat) : List Int := l.map fun i : Nat => (i : Int)
noncomputable def besP (ds : List Deed) (x y i : Nat) : Bool := bfb (dAt ds) x i || bfb (dAt ds) y i
def pairOf (x y : Nat) : Nat × Nat := (min x y, max x y)
def spBes (CR : Addr) : Sp := fun vs H Q _ => ∃ (p : Addr) (x y mn : Nat) (xs : List V) (ds : List Deed), vs = [.ref p, .int (x : Int), .int (y : Int)] ∧ RowAt CR H p (mn : Int) xs ∧ Deeds H xs ds ∧ 1 ≤ mn ∧ mn ≤ 6 ∧ ds.length ≤ 60 ∧ Fault (mn : Int) ds none ∧ pairOf x y ∈ racesP ds ∧
  ∀ (r : Addr) (H' : Hp), Same H H' → H r = none → H' r = some (.lst ((natsB (besideL (besP ds x y) ds.length x y)).map V.int)) → Q (.ref r) H'
abbrev nBes : List Str := ["row", "one", "other", "told", "needed", "left", "place"]
theorem min_nat (x y : Nat) : (if (y : Int) < (x : Int) then (y : Int) else (x : Int)) = ((min x y : Nat) : Int) := by split <;> omega
theorem max_nat (x y : Nat) : (if (y : Int) > (x : Int) then (y : Int) else (x : Int)) = ((max x y : Nat) : Int) := by split <;> omega
theorem pair_lt {ds : List Deed} {x y : Nat} (h : pairOf x y ∈ racesP ds) : x < ds.length ∧ y < ds.length ∧ x ≠ y ∧ ¬ Bf (dAt ds) x y ∧ ¬ Bf (dAt ds) y x := by
  obtain ⟨_, h2, h3, h4⟩ := mem_allP.mp h
  unfold pairOf at h2 h3 h4
  dsimp only at h2 h3 h4
  unfold raceB at h4
  rw [Bool.and_eq_true, decide_eq_true_iff, Bool.not_eq_true', bfb_false] at h4
  refine ⟨by omega, by omega, by omega, fun z => ?_, fun z => ?_⟩
  · have := z.lt
    rw [Nat.max_eq_left (by omega), Nat.min_eq_right (by omega)] at h4
    exact h4.2 z
  · have := z.lt
    rw [Nat.max_eq_right (by omega), Nat.min_eq_left (by omega)] at h4
    exact h4.2 z
theorem natsB_snoc (p : Nat → Bool) (i : Nat) : natsB ((List.range (i + 1)).filter p) = if p i = true then natsB ((List.range i).filter p) ++ [(i : Int)] else natsB ((List.range i).filter p) := by
  show ((List.range (i + 1)).filter p).map _ = _
  rw [List.range_succ, List.filter_append, List.map_append]
  cases h : p i with
  | true => rw [if_pos rfl]; simp [h]
  | false => rw [if_neg (by decide)]; simp [h]
section
variable {P : Program} {w : World} {K : PySem.W.Frag} {mg : Str → Option Value} {base : Heap}
theorem scBes : FnScope nBes ["row", "one", "other"] (defScope s_beside) := ⟨rfl, rfl, rfl, by decide +kernel, rfl, by decide +kernel, by decide +kernel⟩
theorem ok_bes {f C aW aT CR fR fK fE : Addr} {fd fdR fdK fdE : FuncData} (F : Fun K "beside" "beside" s_beside f fd) (T : Txt K mg C aW aT) (R : TxtR K mg CR) (zmi : mg "min" = none) (zma : mg "max" = none)
    (GR : FnOk P w K mg base CX0 4 fR fdR ["row"] (spRaces CR)) (cR : Cal K mg "races" fR fdR ["row"])
    (GK : FnOk P w K mg base CX0 2 fK fdK ["row"] (spClk CR)) (cK : Cal K mg "clocks" fK fdK ["row"])
    (GE : FnOk P w K mg base CX0 2 fE fdE ["row", "told", "one", "other"] (spRch CR)) (cE : Cal K mg "reaches" fE fdE ["row", "told", "one", "other"]) : FnOk P w K mg base CX0 5 f fd ["row", "one", "other"] (spBes CR) := by
  refine F.ok scBes (fun vs H Q E h => ?_) (fun cdv A outer s H vs Q E hr h => ?_)
  · obtain ⟨p, x, y, mn, xs, ds, rfl, _⟩ := h
    rfl
  · obtain ⟨p, x, y, mn, xs, ds, rfl, hR, hds, m1, m6, hlen, fa, hm, k⟩ := h
    have nd := scBes.nd
    have hu := hu64B hr
    have hr2 : Room 2 _ := hr.mono (by decide)
    have hxl := hds.len
    obtain ⟨hx, hy, nxy, _, _⟩ := pair_lt hm
    refine ⟨_, pss_cons (ps_if (pt_cmpR (op_notInD hu) (pe_tup (pa_cons (pe_callB (call_min2 rfl) (by rfl) zmi bMinB (pa_cons (pv 1) (pa_cons (pv 2) pa_nil))) (pa_cons (pe_callB (call_max2 rfl) (by rfl) zma bMaxB (pa_cons (pv 1) (pa_cons (pv 2) pa_nil))) pa_nil))) (pe_call GR hr rfl cR.mgf cR.kp cR.b .nil pass0 (pa_cons (pv 0) pa_nil)) (by with_unfolding_all rfl)) pss_never pss_nil)
      (pss_cons (ps_set (i := 3) nd rfl (Or.inl rfl) (pe_call GK hr2 rfl cK.mgf cK.kp cK.b .nil pass0 (pa_cons (pv 0) pa_nil)))
      (pss_cons (ps_set (i := 4) nd rfl (Or.inl rfl) (pe_lst pa_nil))
      (pss_cons (ps_set (i := 5) nd rfl (Or.inl rfl) (pe_lst pa_nil))
      (pss_cons (ps_for PassesOwn.never rfl (pi_range1 rfl T.rng (pa_cons (pe_fld (pv 0) rfl) pa_nil)) (pg_name (i := 6) nd rfl (Or.inl rfl))
        (pss_one (ps_if (PW.pt (pw_or (pt_val (pe_call GE hr2 rfl cE.mgf cE.kp cE.b .nil pass0 (pa_cons (pv 0) (pa_cons (pv 3) (pa_cons (pv 6) (pa_cons (pv 1) pa_nil)))))) (pw_or1 (pt_val (pe_call GE hr2 rfl cE.mgf cE.kp cE.b .nil pass0 (pa_cons (pv 0) (pa_cons (pv 3) (pa_cons (pv 6) (pa_cons (pv 2) pa_nil)))))))))
          (pss_one (ps_expr (pe_bm PySem.F.plainAttrs_list PySem.F.slot_list_append PySem.F.type_list_append mt_append (pv 4) (pa_cons (pv 6) pa_nil))))
          (pss_one (ps_if (PW.pt (pw_and (pt_cmpR op_ne (pv 6) (pv 1) (nomark _)) (pw_and1 (pt_cmpR op_ne (pv 6) (pv 2) (nomark _))))) (pss_one (ps_expr (pe_bm PySem.F.plainAttrs_list PySem.F.slot_list_append PySem.F.type_list_append mt_append (pv 5) (pa_cons (pv 6) pa_nil)))) pss_nil)))))
      (pss_one (ps_ret (pe_op op_cat (pe_op op_cat (pv 4) (pe_lst (pa_cons (pv 1) (pa_cons (pv 2) pa_nil)))) (pv 5)))))))), ?_⟩
    refine PuS.ifs (c := False) (fun Qt q => ⟨_, rfl, _, rfl, _, _, rfl, _, rfl, _, rfl, _, _, rfl, (by show 2 ≤ sizeLine; decide), fun tp ntp => ?_⟩) (fun _ _ z => z.elim) (fun H1 s1 _ => ?_)
    · rw [min_nat, max_nat] at *
      have sT := same_new (o := .tup [.int ((min x y : Nat) : Int), .int ((max x y : Nat) : Int)]) ntp
      refine ⟨_, rfl, p, mn, xs, ds, rfl, hR.same sT, hds.same sT, m1, m6, hlen, fa, fun rl rs H1 s1 nrl erl PrR => ?_⟩
      refine ⟨rl, rs, datP (pairOf x y), _, rfl, SqL.of erl, dat_pair (q := pairOf x y) (s1 _ _ upd_same), PrR.dat, lay_pair _, lay_pairs _, depth_pair _, _, rfl, ?_⟩
      show Qt (!List.any _ _) _
      rw [any_pairs, decide_eq_true hm]
      exact q _ (sT.trans s1)
    have hR1 := hR.same s1
    refine ⟨_, rfl, p, mn, xs, ds, rfl, hR1, hds.same s1, m1, m6, hlen, fa, fun r ts H2 s2 nr er lt ndt ht => ?_⟩
    dsimp only [gName]
    have CK : CksAt H2 r mn ds ts := ⟨er, lt, fun j a e => (ht j a e).1⟩
    refine ⟨Nat.zero_le _, fun na nna => ?_⟩
    dsimp only [gName]
    refine ⟨Nat.zero_le _, fun la nla => ?_⟩
    dsimp only [gName]
    obtain ⟨n_la_na, nla1⟩ : la ≠ na ∧ H2 la = none := by
      by_cases e : la = na
      · rw [e, upd_same] at nla; cases nla
      · rw [upd_ne e] at nla; exact ⟨e, nla⟩
    have s3 : Same H2 (upd (upd H2 na (.lst [])) la (.lst [])) := (same_new nna).put2 nla1
    have ena : upd (upd H2 na (.lst [])) la (.lst []) na = some (.lst ((natsB []).map V.int)) := by rw [upd_ne n_la_na.symm, upd_same]; rfl
    have ela : upd (upd H2 na (.lst [])) la (.lst []) la = some (.lst ((natsB []).map V.int)) := upd_same
    have s03 := s1.trans (s2.trans s3)
    have nna0 : H na = none := (s1.trans s2).free nna
    have nla0 : H la = none := (s1.trans s2).free nla1
    have CK3 := CK.same s3
    generalize upd (upd H2 na (.lst [])) la (.lst []) = H3 at s03 ena ela CK3
    clear s3 s2 s1 CK hR1 nla
    obtain ⟨dx, tpx, o1, o2⟩ := id hR.ex
    refine ⟨_, rfl, p, CR, dx, _, _, rfl, s03 _ _ o1, R.cl, R.nS, rflds_s _ _ _, _, rfl, by omega, by omega, for_range (lo := 0) (n := ((xs.length : Nat) : Int).toNat) (fun i σ H4 => ∃ (v6 : Option V), σ = [some (.ref p), some (.int (x : Int)), some (.int (y : Int)), some (.ref r), some (.ref na), some (.ref la), v6] ∧ Same H H4 ∧ CksAt H4 r mn ds ts ∧ H4 na = some (.lst ((natsB ((List.range i).filter (besP ds x y))).map V.int)) ∧ H4 la = some (.lst ((natsB ((List.range i).filter fun j => !besP ds x y j && (decide (j ≠ x) && decide (j ≠ y)))).map V.int)))
      ⟨none, rfl, s03, CK3, ena, ela⟩ ?_ ?_⟩
    · rintro i σ H4 hi ⟨v6, rfl, s4, CK4, en, el⟩
      have hi' : i < xs.length := by simpa using hi
      have hid : i < ds.length := by omega
      have e0 : (0 : Int) + (i : Int) = (i : Int) := by omega
      rw [e0]
      dsimp only [gName]
      have lenf : ∀ p : Nat → Bool, (natsB ((List.range i).filter p)).length ≤ 60 := fun p => by
        rw [List.length_map]
        have := List.length_filter_le p (List.range i)
        rw [List.length_range] at this
        omega
      have keepC : ∀ (a : Addr) (o : HO), H a = none → a = na ∨ a = la → CksAt (upd H4 a o) r mn ds ts := fun a o ha hc => by
        have nar : r ≠ a := by
          rcases hc with e | e
          · rw [e]; exact ne_of_none er nna
          · rw [e]; exact ne_of_none er nla1
        refine ⟨by rw [upd_ne nar]; exact CK4.1, CK4.2.1, fun j b e => ?_⟩
        have hb := (ht j b e).1
        have nab : b ≠ a := by
          rcases hc with e' | e'
          · rw [e']; exact ne_of_none hb nna
          · rw [e']; exact ne_of_none hb nla1
        rw [upd_ne nab]
        exact CK4.2.2 j b e
      refine PuT.if1 (c := besP ds x y i = true) ((PuT.or (a := bfb (dAt ds) x i) (b := bfb (dAt ds) y i) (fun Qt q => ⟨_, rfl, _, rfl, _, rfl, _, rfl, p, r, mn, i, x, xs, ds, ts, rfl, hR.same s4, hds.same s4, fa, CK4, hid, hx, _, rfl, q⟩)
          (fun _ Qt q => ⟨_, rfl, _, rfl, _, rfl, _, rfl, p, r, mn, i, y, xs, ds, ts, rfl, hR.same s4, hds.same s4, fa, CK4, hid, hy, _, rfl, q⟩)).iff Iff.rfl) (fun z => ?_) (fun z => ?_)
      · refine ⟨_, rfl, .inl ⟨rfl, _, SqL.of en⟩, _, rfl, na, _, _, rfl, rfl, en, small1000 (by rw [List.length_map]; have := lenf (besP ds x y); omega), ?_⟩
        refine ⟨_, rfl, s4.put2 nna0, keepC na _ nna0 (.inl rfl), ?_, ?_⟩
        · rw [upd_same, natsB_snoc, if_pos z, List.map_append]; rfl
        · rw [upd_ne n_la_na, natsB_snoc, if_neg (by rw [z]; simp)]; exact el
      · have z' : besP ds x y i = false := by cases hb : besP ds x y i with | true => exact absurd hb z | false => rfl
        refine PuT.if1 (c := i ≠ x ∧ i ≠ y) ((PuT.and (a := decide (i ≠ x)) (b := decide (i ≠ y)) (fun Qt q => ⟨_, rfl, _, rfl, rfl, _, rfl, by
            rw [dec_int', show (!decide ((i : Int) = (x : Int))) = decide (i ≠ x) by rw [Bool.eq_iff_iff]; simp; omega]
            exact q⟩) (fun _ Qt q => ⟨_, rfl, _, rfl, rfl, _, rfl, by
            rw [dec_int', show (!decide ((i : Int) = (y : Int))) = decide (i ≠ y) by rw [Bool.eq_iff_iff]; simp; omega]
            exact q⟩)).iff (by simp)) (fun c => ?_) (fun c => ?_)
        · refine ⟨_, rfl, .inl ⟨rfl, _, SqL.of el⟩, _, rfl, la, _, _, rfl, rfl, el, small1000 (by rw [List.length_map]; have := lenf (fun j => !besP ds x y j && (decide (j ≠ x) && decide (j ≠ y))); omega), ?_⟩
          refine ⟨_, rfl, s4.put2 nla0, keepC la _ nla0 (.inr rfl), ?_, ?_⟩
          · rw [upd_ne n_la_na.symm, natsB_snoc, if_neg z]; exact en
          · rw [upd_same, natsB_snoc, if_pos (by rw [z', decide_eq_true c.1, decide_eq_true c.2]; rfl), List.map_append]; rfl
        · refine ⟨_, rfl, s4, CK4, ?_, ?_⟩
          · rw [natsB_snoc, if_neg z]; exact en
          · rw [natsB_snoc, if_neg (by
              rw [z', Bool.not_false, Bool.true_and, Bool.and_eq_true, decide_eq_true_iff, decide_eq_true_iff]
              exact c)]
            exact el
    · rintro σ H4 ⟨v6, rfl, s4, CK4, en, el⟩
      rw [show ((xs.length : Nat) : Int).toNat = ds.length by omega] at en el
      have lf : ∀ p : Nat → Bool, (natsB ((List.range ds.length).filter p)).length ≤ 60 := fun p => by
        rw [List.length_map]
        have := List.length_filter_le p (List.range ds.length)
        rw [List.length_range] at this
        omega
      refine ⟨_, rfl, _, rfl, _, rfl, (by show 2 ≤ sizeLine; decide), fun ta nta => ?_⟩
      have s5 := same_new (o := .lst [V.int (x : Int), V.int (y : Int)]) nta
      refine ⟨na, ta, _, _, rfl, rfl, s5 _ _ en, upd_same, Nat.le_of_lt (small1000 (by rw [List.length_map]; have := lf (besP ds x y); show _ + 2 ≤ _; omega)), fun ca nca => ?_⟩
      have s6 := s5.trans (same_new (o := .lst ((natsB ((List.range ds.length).filter (besP ds x y))).map V.int ++ [V.int (x : Int), V.int (y : Int)])) nca)
      refine ⟨_, rfl, ca, la, _, _, rfl, rfl, upd_same, s6 _ _ el, Nat.le_of_lt (small1000 (by have h1 := lf (besP ds x y); have h2 := lf (fun j => !besP ds x y j && (decide (j ≠ x) && decide (j ≠ y))); simp only [List.length_append, List.length_map, List.length_cons, List.length_nil] at h1 h2 ⊢; omega)), fun ra nra => ?_⟩
      refine k ra _ ((s4.trans s6).trans (same_new nra)) ((s4.trans s6).free nra) ?_
      rw [upd_same]
      show some (HO.lst _) = some (HO.lst (((besideL (besP ds x y) ds.length x y).map fun i : Nat => (i : Int)).map V.int))
      unfold besideL
      rw [List.map_append, List.map_append, List.map_append, List.map_append]
      rfl
end
end K
namespace L2
open PySem PySem.Spec PyProof.Rows
section
variable {X : Cx} {pins : List (Addr × Obj)} {σ : St} {H : Hp} {s : Shared}
end
end L2
namespace L2
open PySem PySem.Spec PyProof.Rows
section
variable {X : Cx}
end
end L2
namespace K
open PySem L2 RC
def IsWI (ds : List Deed) (ns : List Int) : Prop := ∃ l : List Nat, ns = l.map (fun i : Nat => (i : Int)) ∧ IsW (dAt ds) ds.length l
noncomputable def isWb (ds : List Deed) (ns : List Int) : Bool := @decide (IsWI ds ns) (Classical.propDecidable _)
theorem isWb_iff {ds : List Deed} {ns : List Int} : isWb ds ns = true ↔ IsWI ds ns := by
  unfold isWb
  exact @decide_eq_true_iff _ (Classical.propDecidable _)
theorem isWb_false {ds : List Deed} {ns : List Int} : isWb ds ns = false ↔ ¬ IsWI ds ns := by
  rw [← isWb_iff]
  cases isWb ds ns <;> simp
def rngI (n : Nat) : List Int := (List.range n).map fun i : Nat => (i : Int)
theorem rngI_sorted (n : Nat) : (rngI n).Pairwise (· ≤ ·) := by
  unfold rngI
  rw [List.pairwise_map]
  exact List.pairwise_lt_range.imp fun h => by omega
theorem map_inj {l r : List Nat} (h : l.map (fun i : Nat => (i : Int)) = r.map (fun i : Nat => (i : Int))) : l = r := by
  have : ∀ {l r : List Nat}, l.map (fun i : Nat => (i : Int)) = r.map (fun i : Nat => (i : Int)) → l = r := by
    intro l
    induction l with
    | nil => intro r h; cases r with
      | nil => rfl
      | cons a r => simp at h
    | cons a l ih => intro r h; cases r with
      | nil => simp at h
      | cons b r =>
        rw [List.map_cons, List.map_cons] at h
        injection h with h1 h2
        rw [ih h2, Int.ofNat.inj h1]
  exact this h
theorem sorted_iff {ns ns' : List Int} {n : Nat} (hp : ns'.Perm ns) (hs : ns'.Pairwise (· ≤ ·)) : ns' = rngI n ↔ ∃ l : List Nat, ns = l.map (fun i : Nat => (i : Int)) ∧ l.Perm (List.range n) := by
  constructor
  · intro e
    have hp' : ns.Perm (rngI n) := by rw [← e]; exact hp.symm
    have hpos : ∀ x ∈ ns, 0 ≤ x := fun x hx => by
      obtain ⟨i, _, rfl⟩ := List.mem_map.mp (hp'.mem_iff.mp hx)
      omega
    refine ⟨ns.map Int.toNat, ?_, ?_⟩
    · rw [List.map_map]
      refine (List.map_id' ns).symm.trans (List.map_congr_left fun x hx => ?_)
      have := hpos x hx
      show x = ((x.toNat : Nat) : Int)
      omega
    · have h2 := hp'.map Int.toNat
      unfold rngI at h2
      rw [List.map_map] at h2
      have e2 : (List.range n).map (Int.toNat ∘ fun i : Nat => (i : Int)) = List.range n := by
        refine (List.map_congr_left fun x _ => ?_).trans (List.map_id' _)
        show ((x : Int)).toNat = x
        omega
      rw [e2] at h2
      exact h2
  · rintro ⟨l, rfl, hl⟩
    have h2 : ns'.Perm (rngI n) := hp.trans (hl.map _)
    exact List.Perm.eq_of_pairwise (fun a b _ _ h1 h2 => Int.le_antisymm h1 h2) hs (rngI_sorted n) h2
theorem eqv_ints : ∀ ns ms : List Int, PyData.eqv (.list (ns.map PyData.int)) (.list (ms.map PyData.int)) = decide (ns = ms) := by
  have all : ∀ ns ms : List Int, PyData.eqvAll (ns.map PyData.int) (ms.map PyData.int) = decide (ns = ms) := by
    intro ns
    induction ns with
    | nil => intro ms; cases ms <;> simp [PyData.eqvAll]
    | cons a r ih => intro ms; cases ms with
      | nil => simp [PyData.eqvAll]
      | cons b s =>
        rw [List.map_cons, List.map_cons, PyData.eqvAll, ih]
        rw [Bool.eq_iff_iff]
        simp [PyData.eqv]
  intro ns ms
  rw [PyData.eqv, all]
def spIsW (K : PySem.W.Frag) (CR : Addr) : Sp := fun vs H Q _ => ∃ (p o : Addr) (mn : Nat) (xs : List V) (ds : List Deed) (ns : List Int), vs = [.ref p, .ref o] ∧ RowAt CR H p (mn : Int) xs ∧ Deeds H xs ds ∧ 1 ≤ mn ∧ mn ≤ 6 ∧ ds.length ≤ 60 ∧ Fault (mn : Int) ds none ∧ H o = some (.lst (ns.map V.int)) ∧ ns.length < 64 ∧
  ∀ H', Same H H' → Q (.bl (isWb ds ns)) H'
abbrev nIsW : List Str := ["row", "order", "told", "position", "later", "earlier"]
theorem bSortedW : bootBuiltins "sorted" = some (.builtin "sorted") := by decide +kernel
theorem bRangeW : bootBuiltins "range" = some (.type "range") := by decide +kernel
theorem hu64W {A : Around} {k : Nat} (hr : Room k A) : A.units + 64 < cLine := by have := hr.un; omega
section
variable {P : Program} {w : World} {K : PySem.W.Frag} {mg : Str → Option Value} {base : Heap}
theorem scIsW : FnScope nIsW ["row", "order"] (defScope s_is_weaving) := ⟨rfl, rfl, rfl, by decide +kernel, rfl, by decide +kernel, by decide +kernel⟩
theorem ok_isw {f C aW aT CR fK fR : Addr} {fd fdK fdR : FuncData} (F : Fun K "is_weaving" "is_weaving" s_is_weaving f fd) (T : Txt K mg C aW aT) (R : TxtR K mg CR) (zs : mg "sorted" = none)
    (GK : FnOk P w K mg base CX0 2 fK fdK ["row"] (spClk CR)) (cK : Cal K mg "clocks" fK fdK ["row"])
    (GR : FnOk P w K mg base CX0 2 fR fdR ["row", "told", "one", "other"] (spRch CR)) (cR : Cal K mg "reaches" fR fdR ["row", "told", "one", "other"]) : FnOk P w K mg base CX0 3 f fd ["row", "order"] (spIsW K CR) := by
  refine F.ok scIsW (fun vs H Q E h => ?_) (fun cdv A outer s H vs Q E hr h => ?_)
  · obtain ⟨p, o, mn, xs, ds, ns, rfl, _⟩ := h
    rfl
  · obtain ⟨p, o, mn, xs, ds, ns, rfl, hR, hds, m1, m6, hlen, fa, eo, h64, k⟩ := h
    have nd := scIsW.nd
    have hu := hu64W hr
    have hxl := hds.len
    obtain ⟨dx, tp, e1, e2⟩ := id hR.ex
    refine ⟨_, pss_cons (ps_if (pt_cmpR (op_neD hu) (pe_callB call_sorted (by rfl) zs bSortedW (pa_cons (pv 1) pa_nil)) (pe_callTy (call_list_rng rfl) rfl T.lst bList (pa_cons (pe_callTy call_rng1 rfl T.rng bRangeW (pa_cons (pe_fld (pv 0) rfl) pa_nil)) pa_nil)) (nomark _)) (pss_one (ps_ret pe_bl)) pss_nil)
      (pss_cons (ps_set (i := 2) nd rfl (Or.inl rfl) (pe_call GK hr rfl cK.mgf cK.kp cK.b .nil pass0 (pa_cons (pv 0) pa_nil)))
      (pss_cons (ps_for PassesOwn.never rfl (pi_enum rfl T.enu (pa_cons (pv 1) pa_nil)) (pg_tup rfl (pgs_cons (pg_name (i := 3) nd rfl (Or.inl rfl)) (pgs_cons (pg_name (i := 4) nd rfl (Or.inl rfl)) pgs_nil)))
        (pss_one (ps_for PassesOwn.never rfl (pi_list (pe_slice sl_list (pv 1) po_none (po_some (pv 3)))) (pg_name (i := 5) nd rfl (Or.inl rfl))
          (pss_one (ps_if (pt_val (pe_call GR hr rfl cR.mgf cR.kp cR.b .nil pass0 (pa_cons (pv 0) (pa_cons (pv 2) (pa_cons (pv 4) (pa_cons (pv 5) pa_nil)))))) (pss_one (ps_ret pe_bl)) pss_nil)))))
      (pss_one (ps_ret pe_bl)))), ?_⟩
    have rngV : ∀ n : Nat, ((List.range n).map fun i : Nat => V.int (0 + (i : Int))) = (rngI n).map V.int := fun n => by
      unfold rngI
      rw [List.map_map]
      exact List.map_congr_left fun i _ => by show V.int (0 + (i : Int)) = V.int (i : Int); rw [Int.zero_add]
    have dc : Decidable (∃ l : List Nat, ns = l.map (fun i : Nat => (i : Int)) ∧ l.Perm (List.range ds.length)) := Classical.propDecidable _
    refine PuS.ifs (c := ¬ ∃ l : List Nat, ns = l.map (fun i : Nat => (i : Int)) ∧ l.Perm (List.range ds.length)) (fun Qt q => ⟨_, rfl, o, ns, rfl, SqL.of eo, h64, fun sl ns' hp hs nsl => ?_⟩) (fun H1 s1 z => ?_) (fun H1 s1 z => ?_)
    · have s1 := same_new (o := .lst (ns'.map V.int)) nsl
      refine ⟨_, rfl, p, CR, dx, _, _, rfl, s1 _ _ e1, R.cl, R.nS, rflds_s _ _ _, _, rfl, fun rr nrr => ?_⟩
      have s2 := s1.trans (same_new (o := .rng 0 ((xs.length : Nat) : Int)) nrr)
      refine ⟨rr, 0, xs.length, rfl, by rw [upd_same, Int.zero_add], by omega, by decide, by decide, fun ll nll => ?_⟩
      rw [rngV]
      have s3 := same_new (o := .lst ((rngI xs.length).map V.int)) nll
      have esl := s3 _ _ ((same_new (o := .rng 0 ((xs.length : Nat) : Int)) nrr) _ _ (upd_same (H := H) (a := sl) (o := .lst (ns'.map V.int))))
      refine ⟨_, _, .lst (SqL.of esl) (datas_ints _), .lst (SqL.of upd_same) (datas_ints _), shaped_ints _, shaped_ints _, _, rfl, ?_⟩
      show Qt (!PyData.eqv _ _) _
      rw [eqv_ints, hxl, show (!decide (ns' = rngI ds.length)) = decide (¬ ∃ l : List Nat, ns = l.map (fun i : Nat => (i : Int)) ∧ l.Perm (List.range ds.length)) by
        rw [Bool.eq_iff_iff, Bool.not_eq_true', decide_eq_false_iff_not, decide_eq_true_iff, sorted_iff hp hs]]
      have q' := q _ (s2.trans s3)
      rw [hxl] at q'
      exact q'
    · have q := k H1 s1
      rw [isWb_false.mpr (fun ⟨l, h1, h2⟩ => z ⟨l, h1, h2.perm⟩)] at q
      exact q
    obtain ⟨l, rfl, hl⟩ := Classical.not_not.mp z
    have hll : l.length = ds.length := by rw [hl.length_eq, List.length_range]
    have hlm : ∀ i (h : i < l.length), l[i] < ds.length := fun i h => List.mem_range.mp (hl.mem_iff.mp (List.getElem_mem h))
    have eW : ∀ b : Bool, (b = true ↔ l.Pairwise fun a b => ¬ Bf (dAt ds) a b) → isWb ds (l.map fun i : Nat => (i : Int)) = b := fun b hb => by
      rw [Bool.eq_iff_iff, isWb_iff, hb]
      constructor
      · rintro ⟨l', e', w'⟩
        rw [map_inj e']
        exact w'.ord
      · exact fun h => ⟨l, rfl, hl, h⟩
    refine ⟨_, rfl, p, mn, xs, ds, rfl, hR.same s1, hds.same s1, m1, m6, hlen, fa, fun r ts H2 s2 nr er lt ndt ht => ?_⟩
    dsimp only [gName]
    have CK : CksAt H2 r mn ds ts := ⟨er, lt, fun j a e => (ht j a e).1⟩
    have s02 := s1.trans s2
    have lmv : (l.map fun i : Nat => (i : Int)).map V.int = l.map fun i : Nat => V.int (i : Int) := by rw [List.map_map]; rfl
    rw [lmv] at eo
    have eo2 := s02 _ _ eo
    refine ⟨_, rfl, o, rfl, ⟨_, SqL.of eo2⟩, for_enum (K := K) (a := o) (xs := l.map fun i : Nat => V.int (i : Int)) (fun i σ H3 => ∃ (v3 v4 v5 : Option V), σ = [some (.ref p), some (.ref o), some (.ref r), v3, v4, v5] ∧ Same H2 H3 ∧ ∀ i' (hi' : i' < l.length), i' < i → ∀ j (hj : j < i'), ¬ Bf (dAt ds) (l[j]'(by omega)) l[i'])
      ⟨none, none, none, rfl, Same.refl _, fun i' _ h => absurd h (Nat.not_lt_zero _)⟩ (fun i σ H3 _ ⟨_, _, _, _, s3, _⟩ => SqL.of (s3 _ _ eo2)) ?_ ?_⟩
    · rintro i y σ H3 tq hi ⟨v3, v4, v5, rfl, s3, hv⟩ htq
      have hil : i < l.length := by
        have := (List.getElem?_eq_some_iff.mp hi).1
        rwa [List.length_map] at this
      have ey : y = V.int ((l[i] : Nat) : Int) := by
        rw [List.getElem?_map, show l[i]? = some l[i] by simp [hil]] at hi
        exact (Option.some.inj hi).symm
      subst ey
      have s4 : Same H3 (upd H3 tq (.tup [.int (i : Int), .int ((l[i] : Nat) : Int)])) := same_new htq
      refine ⟨tq, _, rfl, SqT.of upd_same, rfl, _, _, rfl, _, _, rfl, rfl, ?_⟩
      dsimp only [gName]
      have s24 := s3.trans s4
      generalize upd H3 tq (.tup [.int (i : Int), .int ((l[i] : Nat) : Int)]) = H4 at s24
      refine ⟨_, rfl, _, rfl, (i : Int), rfl, o, _, rfl, SqL.of (s24 _ _ eo2), fun pc npc => ?_⟩
      rw [cutV_take]
      have s5 := same_new (o := .lst ((l.map fun i : Nat => V.int (i : Int)).take i)) npc
      have e5 : upd H4 pc (.lst ((l.map fun i : Nat => V.int (i : Int)).take i)) pc = some (.lst ((l.map fun i : Nat => V.int (i : Int)).take i)) := upd_same
      have s25 := s24.trans s5
      generalize upd H4 pc (.lst ((l.map fun i : Nat => V.int (i : Int)).take i)) = H5 at s25 e5
      refine ⟨pc, rfl, ⟨_, SqL.of e5⟩, for_list (K := K) (a := pc) (xs := (l.map fun i : Nat => V.int (i : Int)).take i) (fun j σ H6 => ∃ (v5 : Option V), σ = [some (.ref p), some (.ref o), some (.ref r), some (.int (i : Int)), some (.int ((l[i] : Nat) : Int)), v5] ∧ Same H5 H6 ∧ ∀ j' (hj' : j' < i), j' < j → ¬ Bf (dAt ds) (l[j']'(by omega)) l[i])
        ⟨v5, rfl, Same.refl _, fun j' _ h => absurd h (Nat.not_lt_zero _)⟩ (fun j σ H6 _ ⟨_, _, s6, _⟩ => SqL.of (s6 _ _ e5)) ?_ ?_⟩
      · rintro j y σ H6 hj ⟨v5, rfl, s6, hv6⟩
        have hji : j < i := by
          have := (List.getElem?_eq_some_iff.mp hj).1
          rw [List.length_take] at this
          omega
        have hjl : j < l.length := by omega
        have ey : y = V.int ((l[j] : Nat) : Int) := by
          rw [List.getElem?_take, if_pos hji, List.getElem?_map, show l[j]? = some l[j] by simp [hjl]] at hj
          exact (Option.some.inj hj).symm
        subst ey
        dsimp only [gName]
        have s26 := s25.trans s6
        have s06 := s02.trans s26
        refine PuT.if1 (c := bfb (dAt ds) l[j] l[i] = true) (fun Qt q => ⟨_, rfl, _, rfl, _, rfl, _, rfl, p, r, mn, l[i], l[j], xs, ds, ts, rfl, hR.same s06, hds.same s06, fa, CK.same s26, hlm i hil, hlm j hjl, _, rfl, by
          cases hb : bfb (dAt ds) l[j] l[i] with
          | true => rw [hb] at q; exact q
          | false => rw [hb] at q; exact q⟩) (fun z2 => ?_) (fun z2 => ?_)
        · have q := k H6 s06
          rw [eW false ⟨fun h => (by cases h), fun h => ?_⟩] at q
          · exact q
          · exact absurd (bfb_iff.mp z2) (List.pairwise_iff_getElem.mp h j i hjl hil hji)
        · refine ⟨_, rfl, s6, fun j' hj' h => ?_⟩
          rcases Nat.lt_succ_iff_lt_or_eq.mp h with w' | w'
          · exact hv6 j' hj' w'
          · subst w'
            exact fun h => z2 (bfb_iff.mpr h)
      · rintro σ H6 ⟨v5, rfl, s6, hv6⟩
        refine ⟨_, _, _, rfl, s25.trans s6, fun i' hi' h j hj => ?_⟩
        rcases Nat.lt_succ_iff_lt_or_eq.mp h with w' | w'
        · exact hv i' hi' w' j hj
        · subst w'
          refine hv6 j hj ?_
          rw [List.length_take, List.length_map]
          omega
    · rintro σ H3 ⟨v3, v4, v5, rfl, s3, hv⟩
      have q := k H3 (s02.trans s3)
      rw [eW true ⟨fun _ => List.pairwise_iff_getElem.mpr fun j i hj hi hji => hv i hi (by rw [List.length_map]; exact hi) j hji, fun _ => rfl⟩] at q
      exact q
end
end K
namespace L2
open PySem RC
end L2
namespace L2
open PySem RC
theorem comp_intsV {K : PySem.W.Frag} {fr : List Nat} {te : TE} {σ : St} {H1 : Hp} {Q : VK} {a : Addr} {ns : List Int} (g : Int → V) (hz : ns.length < sizeLine) (ha : SqL K H1 a (ns.map V.int))
    (he : ∀ n ∈ ns, ∀ H', Same H1 H' → ∀ Qe : VK, (∀ H'', Same H' H'' → Qe (g n) H'') → te (some (.int n) :: frV fr σ) H' Qe)
    (fin : ∀ D H', H1 D = none → Same H1 H' → H' D = some (.lst (ns.map g)) → Q (.ref D) H') :
    CompG K 1 fr (gName 0) tYes te σ H1 Q a := by
  refine comp_listG (xs := ns.map V.int) (fun D i ys H' => Same H1 H' ∧ ys = (ns.take i).map g) (by rw [List.length_map]; exact hz) (fun D hD => ⟨same_new hD, rfl⟩) (fun D i ys H' hD ⟨s, _⟩ => s.seq ha)
    (fun D i x ys H' o N hD hx ho ⟨s, hP⟩ hd hys kT kF => ?_) (fun D ys H' hD ⟨s, hP⟩ e => fin D H' hD s (by
      rw [e, hP, List.length_map, List.take_length]))
  obtain ⟨n, en, rfl⟩ : ∃ n, ns[i]? = some n ∧ x = V.int n := by
    rw [List.getElem?_map] at hx
    cases e : ns[i]? with
    | none => rw [e] at hx; cases hx
    | some n => rw [e] at hx; exact ⟨n, rfl, (Option.some.inj hx).symm⟩
  match o, ho with
  | [o1], _ =>
    dsimp only [gName, tYes]
    rw [if_pos rfl]
    refine he n (List.mem_of_getElem? en) H' s _ fun H4 s4 => ?_
    refine ⟨ys, s4 _ _ hd, hys, kT [some (.int n)] (g n) _ rfl ⟨(s.trans s4).put2 hD, ?_⟩⟩
    rw [hP, take_snoc en, List.map_append]
    rfl
end L2
namespace K
open PySem L2 RC
abbrev nats (l : List Nat) : List Int := l.map fun i : Nat => (i : Int)
theorem good_ofW {m : Int} {ds : List Deed} (h : Fault m ds none) : ∀ k, k < ds.length → Good m (dAt ds) k := fun k hk => good_iff.mp (by
  rw [pre_dAt ds (Nat.le_of_lt hk)]
  exact h k _ (dAt_get hk))
abbrev wovD (ds : List Deed) (l : List Nat) : List Deed := l.map (dAt ds)
theorem wovD_at {ds : List Deed} {l : List Nat} {a : Nat} (h : a < l.length) : dAt (wovD ds l) a = dAt ds (l.getD a 0) := by
  refine dAt_of ?_
  rw [List.getElem?_map, List.getD_eq_getElem?_getD]
  simp [h]
theorem wov_fault {m : Int} {ds : List Deed} {l : List Nat} (fa : Fault m ds none) (w : IsW (dAt ds) ds.length l) : Fault m (wovD ds l) none := fun j d e => by
  have hl := w.len
  have hj : j < l.length := by
    have := (List.getElem?_eq_some_iff.mp e).1
    rwa [List.length_map] at this
  have g := w.wv.good (good_ofW fa) j (by omega)
  have h1 := good_iff.mpr g
  have e1 : pre (fun a => dAt ds (l.getD a 0)) j = (wovD ds l).take j := by
    rw [← pre_dAt (wovD ds l) (k := j) (by rw [List.length_map]; omega)]
    unfold pre
    refine List.map_congr_left fun a ha => ?_
    rw [List.mem_range] at ha
    exact (wovD_at (by omega)).symm
  have e2 : d = dAt ds (l.getD j 0) := by
    rw [← wovD_at hj]
    exact (dAt_of e).symm
  rw [e1, ← e2] at h1
  exact h1
def spWov (K : PySem.W.Frag) (CR : Addr) : Sp := fun vs H Q _ => ∃ (p o : Addr) (mn : Nat) (xs : List V) (ds : List Deed) (l : List Nat), vs = [.ref p, .ref o] ∧ RowAt CR H p (mn : Int) xs ∧ Deeds H xs ds ∧ 1 ≤ mn ∧ mn ≤ 6 ∧ ds.length ≤ 60 ∧ Fault (mn : Int) ds none ∧ H o = some (.lst ((nats l).map V.int)) ∧ IsW (dAt ds) ds.length l ∧
  ∀ (q : Addr) (H' : Hp), Same H H' → H q = none → RowAt CR H' q (mn : Int) (l.map fun i => xs.getD i .non) → Q (.ref q) H'
theorem ndPR : (["place", "row"] : List Str).Nodup := by decide +kernel
theorem wov_deeds {H : Hp} {xs : List V} {ds : List Deed} (h : Deeds H xs ds) : ∀ {l : List Nat}, (∀ i ∈ l, i < ds.length) → Deeds H (l.map fun i => xs.getD i .non) (wovD ds l)
  | [], _ => Deeds.nil
  | i :: l, hl => by
    have ih := wov_deeds h (l := l) (fun j hj => hl j (List.mem_cons_of_mem _ hj))
    obtain ⟨r, ex, er⟩ := h.ref (hl i (.head _))
    have ev : xs.getD i .non = .ref r := by rw [List.getD_eq_getElem?_getD, ex]; rfl
    have : Deeds H [xs.getD i .non] [dAt ds i] := by
      rw [ev]
      exact Deeds.nil.snoc ⟨r, _, _, _, rfl, er⟩ (deedOf_ref er)
    exact this.append ih
section
variable {P : Program} {w : World} {K : PySem.W.Frag} {mg : Str → Option Value} {base : Heap}
theorem scWov : FnScope ["row", "order"] ["row", "order"] (defScope s_woven) := ⟨rfl, rfl, rfl, by decide +kernel, rfl, by decide +kernel, by decide +kernel⟩
theorem ok_wov {f CR fW fD fI : Addr} {fd fdW fdD fdI : FuncData} (F : Fun K "woven" "woven" s_woven f fd) (R : TxtR K mg CR)
    (GW : FnOk P w K mg base CX0 3 fW fdW ["row", "order"] (spIsW K CR)) (cW : Cal K mg "is_weaving" fW fdW ["row", "order"])
    (GD : FnOk P w K mg base CX0 1 fD fdD ["self", "place"] (spDeed CR)) (bD : Binds K fdD ["self", "place"] []) (mD : Meth K CR "deed" fD)
    (GI : FnOk P w K mg base CX0 5 fI fdI ["self", "many", "deeds"] (spRow K CR)) (bI : Binds K fdI ["self", "many", "deeds"] []) (M : Mk K CR fI) : FnOk P w K mg base CX0 7 f fd ["row", "order"] (spWov K CR) := by
  refine F.ok scWov (fun vs H Q E h => ?_) (fun cdv A outer s H vs Q E hr h => ?_)
  · obtain ⟨p, o, mn, xs, ds, l, rfl, _⟩ := h
    rfl
  · obtain ⟨p, o, mn, xs, ds, l, rfl, hR, hds, m1, m6, hlen, fa, eo, wv, k⟩ := h
    have hr1 : Room 1 _ := hr.mono (by decide)
    have hr3 : Room 3 _ := hr.mono (by decide)
    have hxl := hds.len
    have hll := wv.len
    refine ⟨_, pss_cons (ps_if (pt_not (pt_val (pe_call GW hr3 rfl cW.mgf cW.kp cW.b .nil pass0 (pa_cons (pv 0) (pa_cons (pv 1) pa_nil))))) pss_never pss_nil)
      (pss_one (ps_ret (pe_make M GI hr rfl R.mgR bI .nil pass0 (pa_cons (pe_fld (pv 0) rfl) (pa_cons (pe_comp (N := ["place", "row"]) (nt := 1) (fr := [0]) (te := tMeth CR "deed" (spDeed CR) [] E0 (tVar 1) (tCons (tVar 0) tNil)) rfl
          (.of (XN := ["row", "order"]) (osc := defScope s_woven) rfl rfl rfl (by decide +kernel) (by decide +kernel) (by decide +kernel) rfl (by decide +kernel)) (pi_list (pv 1))
          (fun _ _ _ _ _ _ => ⟨pg_name (i := 0) ndPR rfl (Or.inl rfl), pif_nil, pe_meth (pv 1) R.cl mD GD hr1 bD .nil pass0 (pa_cons (pv 0) pa_nil)⟩)) pa_nil))))), ?_⟩
    refine PuS.ifs (c := False) (PuS.not (a := true) (fun Qt q => ⟨_, rfl, _, rfl, p, o, mn, xs, ds, nats l, rfl, hR, hds, m1, m6, hlen, fa, eo, by rw [List.length_map]; omega, fun H' s' => by
      rw [isWb_iff.mpr ⟨l, rfl, wv⟩]
      exact ⟨true, rfl, q H' s'⟩⟩)) (fun _ _ z => z.elim) (fun H1 s1 _ => ?_)
    have hR1 := hR.same s1
    obtain ⟨dx, tp, e1, e2⟩ := id hR1.ex
    refine ⟨_, rfl, p, CR, dx, _, _, rfl, e1, R.cl, R.nM, rflds_m _ _ _, ?_⟩
    dsimp only [tCons, tNil]
    rw [tComp_iff]
    have hlm : ∀ i ∈ l, i < ds.length := fun i hi => List.mem_range.mp (wv.perm.mem_iff.mp hi)
    refine ⟨_, rfl, o, rfl, ⟨_, SqL.of (s1 _ _ eo)⟩, comp_intsV (fun n => xs.getD n.toNat .non) (small1000 (by rw [List.length_map]; omega)) (SqL.of (s1 _ _ eo)) (fun n hn H' s' Qe qe => ?_) (fun D H2 hD s2 eD => ?_)⟩
    · obtain ⟨i, hi, rfl⟩ := List.mem_map.mp hn
      have hix : i < xs.length := by rw [hxl]; exact hlm i hi
      refine ⟨_, rfl, p, dx, _, rfl, s' _ _ e1, rflds_no _ _ _ (by decide +kernel) (by decide +kernel) (by decide +kernel), _, rfl, p, (mn : Int), xs, i, xs.getD i .non, rfl, hR1.same s', ?_, qe H' (Same.refl _)⟩
      rw [List.getD_eq_getElem?_getD]
      simp [hix]
    · have ev : (nats l).map (fun n => xs.getD n.toNat .non) = l.map fun i => xs.getD i .non := by
        show (l.map _).map _ = _
        rw [List.map_map]
        rfl
      rw [ev] at eD
      have hd2 : Deeds H2 (l.map fun i => xs.getD i .non) (wovD ds l) := wov_deeds (hds.same (s1.trans s2)) hlm
      refine fun q dx1 nq ndx1 _ => row_made nq ndx1 (SqL.of eD) hd2 (by omega) (by omega) (by rw [List.length_map]; omega) (wov_fault fa wv) fun H3 s3 rq => ⟨rfl, ?_⟩
      exact k q H3 (s1.trans (s2.trans s3)) ((s1.trans s2).free nq) rq
end
end K
namespace K
open PySem L2 RC
def spLock : Sp := fun vs H Q _ => ∃ (h : Addr) (t pk b many : Int) (kvs : List (Key × V)) (as ps : List Int) (hold : Int → Option Int) (ds : List Deed), vs = [.ref h, .int t, .int pk, .int b] ∧ H h = some (.dK kvs) ∧ kvs.length ≤ 500 ∧
  (∀ x : Int, valV kvs (Sum.inl x) = (hold x).map V.int) ∧ 0 ≤ b ∧ Gen many as ps hold ds ∧ t ∈ as ∧ ¬ t ∈ ps ∧
  ∀ (r : Addr) (d : Deed) (kvs' : List (Key × V)) (hold' : Int → Option Int) (H' : Hp), H r = none → H' r = some (tupD d) → H' h = some (.dK kvs') → kvs'.length ≤ kvs.length + 1 → (∀ x : Int, valV kvs' (Sum.inl x) = (hold' x).map V.int) →
    Gen many as ps hold' (ds ++ [d]) → (∀ c o, H c = some o → c ≠ h → H' c = some o) → Q (.ref r) H'
section
variable {P : Program} {w : World} {K : PySem.W.Frag} {mg : Str → Option Value} {base : Heap}
theorem scLock : FnScope ["_law_holders", "_law_thread", "_law_pick", "_law_base", "_law_lock"] ["_law_holders", "_law_thread", "_law_pick", "_law_base"] (defScope sLock) := ⟨rfl, rfl, rfl, by decide +kernel, rfl, by decide +kernel, by decide +kernel⟩
theorem ok_lock {f C aW aT : Addr} {fd : FuncData} (F : Fun K "_law_by_lock" "_law_by_lock" sLock f fd) (T : Txt K mg C aW aT) : FnOk P w K mg base CX0 1 f fd ["_law_holders", "_law_thread", "_law_pick", "_law_base"] spLock := by
  refine F.ok scLock (fun vs H Q E h => ?_) (fun cdv A outer s H vs Q E hr h => ?_)
  · obtain ⟨h, t, pk, b, many, kvs, as, ps, hold, ds, rfl, _⟩ := h
    rfl
  · obtain ⟨h, t, pk, b, many, kvs, as, ps, hold, ds, rfl, eh, lh, vh, hb, G, ht, hp, k⟩ := h
    have hu := hu_of hr
    refine ⟨_, pss_cons (ps_set (i := 4) scLock.nd rfl (Or.inl rfl) (pe_op op_add (pv 3) (pe_op op_mod (pv 2) pe_int)))
      (pss_cons (ps_if (pt_cmp (pc_dnotin hu (pv 4) (pv 0))) (pss_cons (ps_dput hu (pv 0) (pv 4) (pv 1) rfl) (pss_one (ps_ret (pe_tup (pa_cons (pv 1) (pa_cons pe_str (pa_cons (pv 4) pa_nil))))))) pss_nil)
      (pss_cons (ps_if (pt_cmpR op_eq (pe_dget hu (pv 0) (pv 4) (fun _ _ => rfl)) (pv 1) (nomark _)) (pss_cons (ps_expr (pe_dpop1 (pv 0) (pv 4) ⟨rfl, rfl, rfl, rfl⟩)) (pss_one (ps_ret (pe_tup (pa_cons (pv 1) (pa_cons pe_str (pa_cons (pv 4) pa_nil))))))) pss_nil)
      (pss_one (ps_ret (pe_tup (pa_cons (pv 1) (pa_cons pe_str (pa_cons (pe_op op_add (pv 3) (pe_op op_mod (pe_op op_fdiv (pv 2) pe_int) pe_int)) pa_nil)))))))), ?_⟩
    refine ⟨_, rfl, _, rfl, _, _, rfl, rfl, (by show (0 : Int) < 2; decide), _, _, rfl, rfl, ?_⟩
    dsimp only [gName]
    have p0 : 0 ≤ pk % 2 := Int.emod_nonneg _ (by decide)
    have l0 : 0 ≤ b + pk % 2 := by omega
    generalize b + pk % 2 = l at l0
    refine PuT.ifs (c := hold l = none) (fun Qt q => ⟨_, rfl, _, rfl, h, _, rfl, DGet.k (k := Sum.inl l) eh, _, rfl, by
      rw [vh l]
      cases e : hold l with
      | none => rw [e] at q; exact q
      | some i => rw [e] at q; exact q⟩) (fun z => ?_) (fun z => ?_)
    · refine ⟨_, rfl, _, rfl, _, rfl, h, _, rfl, DPut.k (k := Sum.inl l) eh (small1000 (by omega)), ?_⟩
      dsimp only
      refine ⟨_, rfl, _, rfl, (by show 3 ≤ sizeLine; decide), fun r hr0 => ?_⟩
      have nrh : h ≠ r := fun e => by
        rw [← e, upd_same] at hr0
        cases hr0
      have hr1 : H r = none := by
        rw [upd_ne nrh.symm] at hr0
        exact hr0
      refine k r (t, W.take, l) _ _ _ hr1 upd_same (by rw [upd_ne nrh, upd_same]) (length_putK _ _ _) (fun x => ?_) (G.take ht hp l0 z) (fun c o e hc => ?_)
      · rw [valV_put]
        by_cases q : x = l
        · rw [if_pos (inl_inj.mpr q), if_pos q]; rfl
        · rw [if_neg (fun e => q (inl_inj.mp e)), if_neg q]; exact vh x
      · rw [upd_ne (ne_of_none e hr1), upd_ne hc]; exact e
    obtain ⟨i, hi⟩ := Option.ne_none_iff_exists'.mp z
    have vi : valV kvs (Sum.inl l) = some (V.int i) := by rw [vh l, hi]; rfl
    refine PuT.ifs (c := i = t) (fun Qt q => ⟨_, rfl, _, rfl, h, V.int i, rfl, by rw [← vi]; exact DGet.k (k := Sum.inl l) eh, _, rfl, rfl, _, rfl, by rw [dec_int']; exact q⟩) (fun z2 => ?_) (fun z2 => ?_)
    · subst z2
      refine ⟨_, rfl, h, rfl, .inl ⟨kvs, .inl eh⟩, _, rfl, kvs, Sum.inl l, V.int i, eh, rfl, vi, ?_⟩
      dsimp only
      refine ⟨_, rfl, _, rfl, (by show 3 ≤ sizeLine; decide), fun r hr0 => ?_⟩
      have nrh : h ≠ r := fun e => by
        rw [← e, upd_same] at hr0
        cases hr0
      have hr1 : H r = none := by
        rw [upd_ne nrh.symm] at hr0
        exact hr0
      refine k r (i, W.give, l) _ _ _ hr1 upd_same (by rw [upd_ne nrh, upd_same]) ?_ (fun x => ?_) (G.give ht hp l0 hi) (fun c o e hc => ?_)
      · have : (dropK kvs (Sum.inl l : Key)).length ≤ kvs.length := List.length_filter_le _ _
        omega
      · rw [valV_drop]
        by_cases q : x = l
        · rw [if_pos (inl_inj.mpr q), if_pos q]; rfl
        · rw [if_neg (fun e => q (inl_inj.mp e)), if_neg q]; exact vh x
      · rw [upd_ne (ne_of_none e hr1), upd_ne hc]; exact e
    · refine ⟨_, rfl, _, rfl, _, rfl, _, _, rfl, rfl, ⟨by decide, by decide⟩, _, _, rfl, rfl, (by show (0 : Int) < 2; decide), _, _, rfl, rfl, (by show 3 ≤ sizeLine; decide), fun r hr0 => ?_⟩
      have q0 : 0 ≤ pk / 2 % 2 := Int.emod_nonneg _ (by decide)
      refine k r (t, W.write, b + pk / 2 % 2) kvs hold _ hr0 upd_same (by rw [upd_ne (ne_of_none eh hr0)]; exact eh) (Nat.le_succ _) vh (G.rw ht hp (by omega) (.inr rfl)) (fun c o e hc => ?_)
      rw [upd_ne (ne_of_none e hr0)]; exact e
end
end K
namespace K
open PySem L2 RC
structure GenAt (H : Hp) (aw pa ha da : Addr) (many : Int) (as ps : List Int) (hold : Int → Option Int) (kvs : List (Key × V)) (xs : List V) (ds : List Deed) (i : Nat) : Prop where
  eaw : H aw = some (.lst (as.map V.int))
  epa : H pa = some (.lst (ps.map V.int))
  eha : H ha = some (.dK kvs)
  eda : H da = some (.lst xs)
  dds : Deeds H xs ds
  gen : Gen many as ps hold ds
  val : ∀ x : Int, valV kvs (Sum.inl x) = (hold x).map V.int
  lk : kvs.length ≤ i
  ld : ds.length = i
  la : as.length ≤ i + 1
  lp : ps.length ≤ i
  bd : ∀ a ∈ as, a < (as.length : Int)
theorem GenAt.keep {H H' : Hp} {aw pa ha da : Addr} {many : Int} {as ps : List Int} {hold : Int → Option Int} {kvs : List (Key × V)} {xs : List V} {ds : List Deed} {i : Nat} (g : GenAt H aw pa ha da many as ps hold kvs xs ds i) (s : Same H H') : GenAt H' aw pa ha da many as ps hold kvs xs ds i :=
  ⟨s _ _ g.eaw, s _ _ g.epa, s _ _ g.eha, s _ _ g.eda, g.dds.same s, g.gen, g.val, g.lk, g.ld, g.la, g.lp, g.bd⟩
theorem none_upd {H : Hp} {a p : Addr} {o : HO} (h : upd H a o p = none) : p ≠ a ∧ H p = none := by
  by_cases e : p = a
  · rw [e, upd_same] at h
    cases h
  · rw [upd_ne e] at h
    exact ⟨e, h⟩
theorem tsame_put {H : Hp} {a : Addr} {ys : List V} {o : HO} (h : H a = some (.lst ys)) : TSame H (upd H a o) := fun b zs e => by
  rw [upd_ne (ne_of e h (by intro z; cases z))]
  exact e
theorem tsame_same {H H' : Hp} (s : Same H H') : TSame H H' := fun b ys e => s b _ e
theorem GenAt.done {H : Hp} {aw pa ha da tp : Addr} {many : Int} {as ps : List Int} {hold : Int → Option Int} {kvs : List (Key × V)} {xs : List V} {ds : List Deed} {d : Deed} {i : Nat} (eaw : H aw = some (.lst (as.map V.int))) (epa : H pa = some (.lst (ps.map V.int))) (eha : H ha = some (.dK kvs)) (eda : H da = some (.lst xs))
    (dds : Deeds H xs ds) (htp : H tp = some (tupD d)) (gen : Gen many as ps hold (ds ++ [d])) (val : ∀ x : Int, valV kvs (Sum.inl x) = (hold x).map V.int) (lk : kvs.length ≤ i + 1) (ld : ds.length = i) (la : as.length ≤ i + 2) (lp : ps.length ≤ i + 1) (bd : ∀ a ∈ as, a < (as.length : Int)) (n1 : aw ≠ da) (n2 : pa ≠ da) :
    GenAt (upd H da (.lst (xs ++ [.ref tp]))) aw pa ha da many as ps hold kvs (xs ++ [.ref tp]) (ds ++ [d]) (i + 1) := by
  have n3 : ha ≠ da := ne_of eha eda (by intro z; cases z)
  have n4 : tp ≠ da := ne_of htp eda (by intro z; cases z)
  have e4 : upd H da (.lst (xs ++ [.ref tp])) tp = some (.tup [.int d.1, .str d.2.1, .int d.2.2]) := by rw [upd_ne n4]; exact htp
  refine ⟨by rw [upd_ne n1]; exact eaw, by rw [upd_ne n2]; exact epa, by rw [upd_ne n3]; exact eha, upd_same, (dds.tsame (tsame_put eda)).snoc ⟨tp, _, _, _, rfl, e4⟩ (deedOf_ref e4), gen, val, lk, by rw [List.length_append, ld]; rfl, la, lp, bd⟩
theorem hu64_of {A : Around} {k : Nat} (hr : Room k A) : A.units + 64 < cLine := by have := hr.un; omega
def spDeeds (K : PySem.W.Frag) : Sp := fun vs H Q _ => ∃ (c : Addr) (many b : Int) (ns : List Int), vs = [.ref c, .int many, .int b] ∧ SqL K H c (ns.map V.int) ∧ ns.length ≤ 100 ∧ 1 ≤ many ∧ 0 ≤ b ∧
  ∀ (l : Addr) (xs : List V) (ds : List Deed) (H' : Hp), Same H H' → H l = none → H' l = some (.lst xs) → Deeds H' xs ds → ds.length = ns.length → Fault many ds none → Q (.ref l) H'
section
variable {P : Program} {w : World} {K : PySem.W.Frag} {mg : Str → Option Value} {base : Heap}
theorem scDeeds : FnScope ["_law_cells", "_law_many", "_law_base", "_law_awake", "_law_past", "_law_holders", "_law_deeds_here", "_law_number", "_law_alive", "_law_thread", "_law_kind", "_law_pick", "_law_others"] ["_law_cells", "_law_many", "_law_base"] (defScope sDeeds) := ⟨rfl, rfl, rfl, by decide +kernel, rfl, by decide +kernel, by decide +kernel⟩
abbrev nDeeds : List Str := ["_law_cells", "_law_many", "_law_base", "_law_awake", "_law_past", "_law_holders", "_law_deeds_here", "_law_number", "_law_alive", "_law_thread", "_law_kind", "_law_pick", "_law_others"]
theorem nd1 : (["_law_thread", "_law_past"] : List Str).Nodup := by decide +kernel
theorem nd2 : (["_law_one", "_law_thread"] : List Str).Nodup := by decide +kernel
theorem ok_deeds {f C aW aT fN fL : Addr} {fd fdN fdL : FuncData} (F : Fun K "_law_deeds" "_law_deeds" sDeeds f fd) (T : Txt K mg C aW aT)
    (GN : FnOk P w K mg base CX0 1 fN fdN ["_law_cells"] (spNum K)) (cN : Cal K mg "_law_numbers" fN fdN ["_law_cells"])
    (GL : FnOk P w K mg base CX0 1 fL fdL ["_law_holders", "_law_thread", "_law_pick", "_law_base"] spLock) (cL : Cal K mg "_law_by_lock" fL fdL ["_law_holders", "_law_thread", "_law_pick", "_law_base"]) :
    FnOk P w K mg base CX0 2 f fd ["_law_cells", "_law_many", "_law_base"] (spDeeds K) := by
  refine F.ok scDeeds (fun vs H Q E h => ?_) (fun cdv A outer s H vs Q E hr h => ?_)
  · obtain ⟨c, many, b, ns, rfl, _⟩ := h
    rfl
  · obtain ⟨c, many, b, ns, rfl, hS, hlen, hm, hb, k⟩ := h
    have nd := scDeeds.nd
    refine ⟨_, pss_cons (ps_set (i := 3) nd rfl (Or.inl rfl) (pe_lst (pa_cons pe_int pa_nil)))
      (pss_cons (ps_set (i := 4) nd rfl (Or.inr rfl) (pe_lst pa_nil))
      (pss_cons (ps_set (i := 5) nd rfl (Or.inl rfl) pe_dnewK)
      (pss_cons (ps_set (i := 6) nd rfl (Or.inl rfl) (pe_lst pa_nil))
      (pss_cons (ps_for PassesOwn.never rfl (pi_list (pe_call GN hr rfl cN.mgf cN.kp cN.b .nil pass0 (pa_cons (pv 0) pa_nil))) (pg_name (i := 7) nd rfl (Or.inl rfl))
        (pss_cons (ps_setComp (i := 8) (N := ["_law_thread", "_law_past"]) (nt := 1) (fr := [4]) nd rfl (Or.inl rfl) rfl
            (.of (XN := nDeeds) (osc := defScope sDeeds) rfl rfl rfl (by decide +kernel) (by decide +kernel) (by decide +kernel) rfl (by decide +kernel)) (pi_list (pv 3))
            (fun _ _ _ _ _ _ => ⟨pg_name (i := 0) nd1 rfl (Or.inl rfl), pif_one (pt_cmpR (r := rIn K true) op_notIn_seq (pv 0) (pv 1) (by with_unfolding_all rfl)), pv 0⟩))
        (pss_cons (ps_set (i := 9) nd rfl (Or.inr rfl) (pe_ix ix_list (pv 8) (pe_op op_mod (pv 7) (pe_callB call_len_seq (by rfl) T.len PySem.boot_len (pa_cons (pv 8) pa_nil))) (fun _ _ => rfl)))
        (pss_cons (ps_set (i := 10) nd rfl (Or.inl rfl) (pe_op op_mod (pe_op op_fdiv (pv 7) pe_int) pe_int))
        (pss_cons (ps_set (i := 11) nd rfl (Or.inl rfl) (pe_op op_fdiv (pv 7) pe_int))
        (pss_cons (ps_setComp (i := 12) (N := ["_law_one", "_law_thread"]) (nt := 1) (fr := [9]) nd rfl (Or.inl rfl) rfl
            (.of (XN := nDeeds) (osc := defScope sDeeds) rfl rfl rfl (by decide +kernel) (by decide +kernel) (by decide +kernel) rfl (by decide +kernel)) (pi_list (pv 8))
            (fun _ _ _ _ _ _ => ⟨pg_name (i := 0) nd2 rfl (Or.inl rfl), pif_one (pt_cmpR op_ne (pv 0) (pv 1) (nomark _)), pv 0⟩))
        (pss_one (ps_if (PW.pt (pw_and (pt_cmpR op_lt (pe_callB call_len_seq (by rfl) T.len PySem.boot_len (pa_cons (pv 3) pa_nil)) (pv 1) (nomark _))
              (pw_and1 (PW.pt (pw_or (PW.pt (pw_and (pt_cmpR op_eq (pe_callB call_len_seq (by rfl) T.len PySem.boot_len (pa_cons (pv 8) pa_nil)) pe_int (nomark _)) (pw_and1 (pt_cmpR op_eq (pe_op op_mod (pv 11) pe_int) pe_int (nomark _)))))
                (pw_or1 (pt_cmpR op_eq (pv 10) pe_int (nomark _))))))))
          (pss_cons (ps_expr (pe_bm PySem.F.plainAttrs_list PySem.F.slot_list_append PySem.F.type_list_append mt_append (pv 3) (pa_cons (pe_callB call_len_seq (by rfl) T.len PySem.boot_len (pa_cons (pv 3) pa_nil)) pa_nil)))
          (pss_one (ps_expr (pe_bm PySem.F.plainAttrs_list PySem.F.slot_list_append PySem.F.type_list_append mt_append (pv 6) (pa_cons (pe_tup (pa_cons (pv 9) (pa_cons pe_str (pa_cons (pe_op op_sub (pe_callB call_len_seq (by rfl) T.len PySem.boot_len (pa_cons (pv 3) pa_nil)) pe_int) pa_nil)))) pa_nil)))))
          (pss_one (ps_if (PW.pt (pw_and (pt_cmpR op_eq (pv 10) pe_int (nomark _)) (pw_and (pt_cmpR (op_neD (hu64_of hr)) (pv 12) (pe_lst pa_nil) (nomark _)) (pw_and1 (pt_cmpR op_eq (pe_op op_mod (pv 11) pe_int) pe_int (nomark _))))))
            (pss_cons (ps_expr (pe_bm PySem.F.plainAttrs_list PySem.F.slot_list_append PySem.F.type_list_append mt_append (pv 4) (pa_cons (pe_ix ix_list (pv 12) (pe_op op_mod (pe_op op_fdiv (pv 11) pe_int) (pe_callB call_len_seq (by rfl) T.len PySem.boot_len (pa_cons (pv 12) pa_nil))) (fun _ _ => rfl)) pa_nil)))
            (pss_one (ps_expr (pe_bm PySem.F.plainAttrs_list PySem.F.slot_list_append PySem.F.type_list_append mt_append (pv 6) (pa_cons (pe_tup (pa_cons (pv 9) (pa_cons pe_str (pa_cons (pe_ix ix_list (pv 4) (pe_un un_neg pe_int) (fun _ _ => rfl)) pa_nil)))) pa_nil)))))
            (pss_one (ps_if (pt_cmpR op_gt (pv 10) pe_int (nomark _))
              (pss_one (ps_expr (pe_bm PySem.F.plainAttrs_list PySem.F.slot_list_append PySem.F.type_list_append mt_append (pv 6) (pa_cons (pe_call GL hr rfl cL.mgf cL.kp cL.b .nil pass0 (pa_cons (pv 5) (pa_cons (pv 9) (pa_cons (pv 11) (pa_cons (pv 2) pa_nil))))) pa_nil))))
              (pss_one (ps_expr (pe_bm PySem.F.plainAttrs_list PySem.F.slot_list_append PySem.F.type_list_append mt_append (pv 6) (pa_cons (pe_tup (pa_cons (pv 9) (pa_cons (pe_ix ix_list (pe_lst (pa_cons pe_str (pa_cons pe_str (pa_cons pe_str pa_nil)))) (pe_op op_mod (pv 10) pe_int) (fun _ _ => rfl)) (pa_cons (pe_op op_add (pv 2) (pe_op op_mod (pv 11) pe_int)) pa_nil)))) pa_nil))))))))))))))))
      (pss_one (ps_ret (pv 6))))))), ?_⟩
    refine ⟨(by show 1 ≤ sizeLine; decide), fun aw naw => ?_⟩
    dsimp only [gName]
    refine ⟨Nat.zero_le _, fun pa npa => ?_⟩
    dsimp only [gName]
    refine fun ha nha => ?_
    dsimp only [gName]
    refine ⟨Nat.zero_le _, fun da nda => ?_⟩
    dsimp only [gName]
    obtain ⟨n_pa_aw, npa0⟩ := none_upd npa
    obtain ⟨n_ha_pa, nha1⟩ := none_upd nha
    obtain ⟨n_ha_aw, nha0⟩ := none_upd nha1
    obtain ⟨n_da_ha, nda1⟩ := none_upd nda
    obtain ⟨n_da_pa, nda2⟩ := none_upd nda1
    obtain ⟨n_da_aw, nda0⟩ := none_upd nda2
    have s4 : Same H (upd (upd (upd (upd H aw (.lst [.int 0])) pa (.lst [])) ha (.dK [])) da (.lst [])) := (((same_new naw).put npa0).put nha0).put nda0
    have g4 : GenAt (upd (upd (upd (upd H aw (.lst [.int 0])) pa (.lst [])) ha (.dK [])) da (.lst [])) aw pa ha da many [0] [] (fun _ => none) [] [] [] 0 :=
      ⟨by rw [upd_ne n_da_aw.symm, upd_ne n_ha_aw.symm, upd_ne n_pa_aw.symm, upd_same]; rfl, by rw [upd_ne n_da_pa.symm, upd_ne n_ha_pa.symm, upd_same]; rfl, by rw [upd_ne n_da_ha.symm, upd_same], upd_same, Deeds.nil, Gen.start hm, fun x => rfl, Nat.le_refl _, rfl, Nat.le_refl _, Nat.le_refl _, fun a h => by
        rw [List.mem_singleton.mp h]
        decide⟩
    refine ⟨_, rfl, c, ns, rfl, s4.seq hS, by omega, fun r ms H5 s5 nr er el em => ?_⟩
    obtain ⟨n_r_da, nr1⟩ := none_upd nr
    obtain ⟨n_r_ha, nr2⟩ := none_upd nr1
    obtain ⟨n_r_pa, nr3⟩ := none_upd nr2
    obtain ⟨n_r_aw, nr0⟩ := none_upd nr3
    refine ⟨r, rfl, ⟨_, SqL.of er⟩, for_list (K := K) (a := r) (xs := ms.map V.int) (fun i σ H6 => ∃ (as ps : List Int) (hold : Int → Option Int) (kvs : List (Key × V)) (xs : List V) (ds : List Deed) (v7 v8 v9 v10 v11 v12 : Option V),
        σ = [some (.ref c), some (.int many), some (.int b), some (.ref aw), some (.ref pa), some (.ref ha), some (.ref da), v7, v8, v9, v10, v11, v12] ∧ Same H H6 ∧ H6 r = some (.lst (ms.map V.int)) ∧ GenAt H6 aw pa ha da many as ps hold kvs xs ds i)
      ⟨[0], [], _, [], [], [], none, none, none, none, none, none, rfl, s4.trans s5, er, g4.keep s5⟩ (fun i σ H6 _ ⟨_, _, _, _, _, _, _, _, _, _, _, _, _, _, e, _⟩ => SqL.of e) ?_ ?_⟩
    · rintro i y σ H6 hi ⟨as, ps, hold, kvs, xs, ds, v7, v8, v9, v10, v11, v12, rfl, s6, er6, g⟩
      have hil : i < ns.length := by
        have := (List.getElem?_eq_some_iff.mp hi).1
        rwa [List.length_map, el] at this
      obtain ⟨num, rfl, n0⟩ : ∃ z, y = V.int z ∧ 0 ≤ z := by
        rw [List.getElem?_map] at hi
        cases e : ms[i]? with
        | none => rw [e] at hi; cases hi
        | some z => rw [e] at hi; exact ⟨z, (Option.some.inj hi).symm, em z (List.mem_of_getElem? e)⟩
      dsimp only [gName]
      refine setComp_list (a := aw) (xs := as.map V.int) (fun v => !inV v (ps.map V.int)) (fun v => v) (fun Q' q => ⟨_, rfl, q⟩) (SqL.of g.eaw) (small1000 (by rw [List.length_map]; have := g.la; omega)) ?ht1 (fun D hD x ys Qe hx hp q => ⟨_, rfl, q⟩) (fun D hD => ?_)
      case ht1 =>
        intro D hD x ys Qt hx q
        obtain ⟨a, _, rfl⟩ := List.mem_map.mp hx
        exact ⟨_, rfl, _, rfl, pa, _, rfl, .inl (SqL.of (same_new hD _ _ g.epa)), rfl, ints_flat ps, _, rfl, q⟩
      rw [filt_ints (q := fun a => decide (¬ a ∈ ps)) (fun a => by rw [inV_ints]; simp)]
      obtain ⟨al, hal⟩ : ∃ al, al = as.filter (fun a => decide (¬ a ∈ ps)) := ⟨_, rfl⟩
      rw [← hal]
      have sD : Same H6 (upd H6 D (.lst (al.map V.int))) := same_new hD
      have g7 := g.keep sD
      have s7 : Same H (upd H6 D (.lst (al.map V.int))) := s6.trans sD
      have er7 : upd H6 D (.lst (al.map V.int)) r = some (.lst (ms.map V.int)) := sD _ _ er6
      have e7 : upd H6 D (.lst (al.map V.int)) D = some (.lst (al.map V.int)) := upd_same
      clear g er6
      generalize upd H6 D (.lst (al.map V.int)) = H7 at g7 s7 er7 e7
      clear sD s6 hD
      have alne : 0 < al.length := by
        obtain ⟨t, ht, hp⟩ := g7.gen.live
        have : t ∈ al := by rw [hal]; exact List.mem_filter.mpr ⟨ht, by simpa using hp⟩
        exact List.length_pos_of_mem this
      obtain ⟨j, hj, ej⟩ : ∃ j : Nat, j < al.length ∧ num % (((al.map V.int).length : Nat) : Int) = (j : Int) := by
        rw [List.length_map]
        have h1 : 0 ≤ num % (al.length : Int) := Int.emod_nonneg _ (by omega)
        have h2 : num % (al.length : Int) < al.length := Int.emod_lt_of_pos _ (by omega)
        exact ⟨(num % (al.length : Int)).toNat, by omega, by omega⟩
      obtain ⟨t, het⟩ : ∃ t, t = al[j] := ⟨_, rfl⟩
      have htm : t ∈ as ∧ ¬ t ∈ ps := by
        have : t ∈ al := by rw [het]; exact List.getElem_mem hj
        rw [hal] at this
        obtain ⟨h1, h2⟩ := List.mem_filter.mp this
        exact ⟨h1, by simpa using h2⟩
      refine ⟨_, rfl, _, rfl, _, rfl, D, _, rfl, .inl (SqL.of e7), _, _, rfl, rfl, (by show (0 : Int) < (((al.map V.int).length : Nat) : Int); rw [List.length_map]; omega), D, _, _, .int t, rfl, rfl, SqL.of e7, ?hat, ?_⟩
      case hat =>
        rw [ej]
        exact atI_nat (by rw [List.getElem?_map, het]; simp [hj])
      dsimp only [gName]
      refine ⟨_, rfl, _, _, rfl, rfl, ⟨by decide, by decide⟩, _, _, rfl, rfl, (by show (0 : Int) < 12; decide), ?_⟩
      dsimp only [gName]
      refine ⟨_, rfl, _, _, rfl, rfl, ⟨by decide, by decide⟩, ?_⟩
      dsimp only [gName]
      have pk0 : 0 ≤ num / 96 := by omega
      have kd0 : 0 ≤ num / 8 % 12 := by omega
      generalize num / 96 = pk at pk0
      generalize num / 8 % 12 = kd at kd0
      refine setComp_list (a := D) (xs := al.map V.int) (fun v => !decide (v = V.int t)) (fun v => v) (fun Q' q => ⟨_, rfl, q⟩) (SqL.of e7) (small1000 (by
        rw [List.length_map, hal]
        have h1 := List.length_filter_le (fun a => decide (¬ a ∈ ps)) as
        have h2 := g7.la
        omega)) ?ht2 (fun D hD x ys Qe hx hp q => ⟨_, rfl, q⟩) (fun D2 hD2 => ?_)
      case ht2 =>
        intro D hD x ys Qt hx q
        obtain ⟨a, _, rfl⟩ := List.mem_map.mp hx
        exact ⟨_, rfl, _, rfl, rfl, _, rfl, q⟩
      rw [filt_ints (q := fun a => decide (a ≠ t)) (fun a => by rw [dec_int']; simp)]
      obtain ⟨ot, hot⟩ : ∃ ot, ot = al.filter (fun a => decide (a ≠ t)) := ⟨_, rfl⟩
      rw [← hot]
      have sD : Same H7 (upd H7 D2 (.lst (ot.map V.int))) := same_new hD2
      have g8 := g7.keep sD
      have s8 : Same H (upd H7 D2 (.lst (ot.map V.int))) := s7.trans sD
      have er8 : upd H7 D2 (.lst (ot.map V.int)) r = some (.lst (ms.map V.int)) := sD _ _ er7
      have e8 : upd H7 D2 (.lst (ot.map V.int)) D = some (.lst (al.map V.int)) := sD _ _ e7
      have f8 : upd H7 D2 (.lst (ot.map V.int)) D2 = some (.lst (ot.map V.int)) := upd_same
      generalize upd H7 D2 (.lst (ot.map V.int)) = H8 at g8 s8 er8 e8 f8
      clear sD g7 s7 er7 e7 hD2
      have hsub : ∀ o ∈ ot, o ∈ as ∧ o ≠ t := fun o ho => by
        rw [hot, List.mem_filter, hal, List.mem_filter] at ho
        exact ⟨ho.1.1, by simpa using ho.2⟩
      refine PuS.if1 (c := (as.length : Int) < many ∧ (((al.length : Int) = 1 ∧ pk % 2 = 0) ∨ kd = 10)) (PuT.pus ((PuT.and (a := decide ((as.length : Int) < many)) (b := (decide ((al.length : Int) = 1) && decide (pk % 2 = 0)) || decide (kd = 10))
          (fun Qt q => ⟨_, rfl, aw, _, rfl, .inl (SqL.of g8.eaw), _, rfl, _, _, rfl, rfl, _, rfl, by rw [List.length_map]; exact q⟩)
          (fun _ => PuT.or (PuT.and (fun Qt q => ⟨_, rfl, D, _, rfl, .inl (SqL.of e8), rfl, _, rfl, by rw [dec_int', List.length_map]; exact q⟩) (fun _ Qt q => ⟨_, rfl, _, _, rfl, rfl, (by show (0 : Int) < 2; decide), rfl, _, rfl, by rw [dec_int']; exact q⟩))
            (fun _ Qt q => ⟨_, rfl, rfl, _, rfl, by rw [dec_int']; exact q⟩))).iff (by simp))) (fun H9 s9 c1 => ?_) (fun H9 s9 c1 => ?_)
      · -- a fork
        have g9 := g8.keep s9
        have er9 := s9 _ _ er8
        refine ⟨_, rfl, .inl ⟨rfl, _, SqL.of g9.eaw⟩, _, rfl, aw, _, rfl, .inl (SqL.of g9.eaw), aw, _, _, rfl, rfl, g9.eaw, small1000 (by rw [List.length_map]; have := g9.la; omega), ?_⟩
        dsimp only
        have eda1 : ∀ o, upd H9 aw o da = some (.lst xs) := fun o => by rw [upd_ne n_da_aw]; exact g9.eda
        refine ⟨_, rfl, .inl ⟨rfl, _, SqL.of (eda1 _)⟩, _, rfl, _, rfl, aw, _, rfl, .inl (SqL.of upd_same), _, _, rfl, rfl, (by show 3 ≤ sizeLine; decide), fun tp ntp => ?_⟩
        obtain ⟨n_tp_aw, ntp0⟩ := none_upd ntp
        have n_tp_da : tp ≠ da := fun e => by rw [e, eda1] at ntp; cases ntp
        have elen : (((as.map V.int ++ [V.int (((as.map V.int).length : Nat) : Int)]).length : Nat) : Int) - 1 = (as.length : Int) := by
          rw [List.length_append, List.length_map, List.length_singleton]; omega
        refine ⟨da, _, _, rfl, rfl, (by rw [upd_ne n_tp_da.symm]; exact eda1 _), small1000 (by rw [g9.dds.len, g9.ld]; omega), ?_⟩
        have n1 : (as.length : Int) < many := c1.1
        refine ⟨as ++ [(as.length : Int)], ps, hold, kvs, xs ++ [.ref tp], ds ++ [(t, W.fork, (as.length : Int))], _, _, _, _, _, _, rfl, ?_, ?_, ?_⟩
        · exact (((s8.trans s9).put naw).put (s8.trans s9 |>.free ntp0)).put nda0
        · rw [upd_ne n_r_da, upd_ne (ne_of_none er9 ntp0), upd_ne n_r_aw]; exact er9
        · refine GenAt.done (tp := tp) ?_ ?_ ?_ ?_ ?_ ?_ (g9.gen.fork htm.1 htm.2 (by omega) n1 (fun z => absurd (g9.bd _ z) (by omega))) g9.val (by have := g9.lk; omega) g9.ld (by have := g9.la; rw [List.length_append, List.length_singleton]; omega) (by have := g9.lp; omega) ?_ n_da_aw.symm n_da_pa.symm
          · rw [upd_ne n_tp_aw.symm, upd_same, List.map_append, List.length_map]; rfl
          · rw [upd_ne (ne_of_none g9.epa ntp0), upd_ne n_pa_aw]; exact g9.epa
          · rw [upd_ne (ne_of_none g9.eha ntp0), upd_ne n_ha_aw]; exact g9.eha
          · rw [upd_ne n_tp_da.symm]; exact eda1 _
          · exact (g9.dds.tsame (tsame_put g9.eaw)).tsame (tsame_same (same_new ntp))
          · rw [upd_same]
            dsimp only
            rw [elen]; rfl
          · intro a ha'
            rw [List.length_append, List.length_singleton]
            rcases List.mem_append.mp ha' with q | q
            · have := g9.bd a q; omega
            · rw [List.mem_singleton.mp q]; omega
      refine PuS.if1 (c := kd = 11 ∧ (ot ≠ [] ∧ pk % 3 = 0)) ((PuS.and (a := decide (kd = 11)) (b := decide (ot ≠ []) && decide (pk % 3 = 0)) (PuT.pus (fun Qt q => ⟨_, rfl, rfl, _, rfl, by rw [dec_int']; exact q⟩))
          (fun _ Ha sa => PuS.and (pus_neNil (a := D2) rfl (SqL.of (sa _ _ (s9 _ _ f8)))) (fun _ Hb sb => PuT.pus (fun Qt q => ⟨_, rfl, _, _, rfl, rfl, (by show (0 : Int) < 3; decide), rfl, _, rfl, by rw [dec_int']; exact q⟩)))).iff (by simp)) (fun H10 s10 c2 => ?_) (fun H10 s10 c2 => ?_)
      · -- a wait
        have s10' : Same H8 H10 := s9.trans s10
        have g10 := g8.keep s10'
        have er10 := s10' _ _ er8
        have f10 := s10' _ _ f8
        have otne : 0 < ot.length := List.length_pos_iff.mpr c2.2.1
        obtain ⟨j2, hj2, ej2⟩ : ∃ j : Nat, j < ot.length ∧ pk / 3 % (((ot.map V.int).length : Nat) : Int) = (j : Int) := by
          rw [List.length_map]
          have h1 : 0 ≤ pk / 3 % (ot.length : Int) := Int.emod_nonneg _ (by omega)
          have h2 : pk / 3 % (ot.length : Int) < ot.length := Int.emod_lt_of_pos _ (by omega)
          exact ⟨(pk / 3 % (ot.length : Int)).toNat, by omega, by omega⟩
        obtain ⟨o, heo⟩ : ∃ o, o = ot[j2] := ⟨_, rfl⟩
        have ho := hsub o (by rw [heo]; exact List.getElem_mem hj2)
        refine ⟨_, rfl, .inl ⟨rfl, _, SqL.of g10.epa⟩, _, rfl, _, rfl, _, _, rfl, rfl, ⟨by decide, by decide⟩, _, rfl, D2, _, rfl, .inl (SqL.of f10), _, _, rfl, rfl, (by show (0 : Int) < (((ot.map V.int).length : Nat) : Int); rw [List.length_map]; omega), D2, _, _, .int o, rfl, rfl, SqL.of f10, ?hat2, ?_⟩
        case hat2 =>
          rw [ej2]
          exact atI_nat (by rw [List.getElem?_map, heo]; simp [hj2])
        refine ⟨pa, _, _, rfl, rfl, g10.epa, small1000 (by rw [List.length_map]; have := g10.lp; omega), ?_⟩
        dsimp only
        have eda1 : ∀ u, upd H10 pa u da = some (.lst xs) := fun u => by rw [upd_ne n_da_pa]; exact g10.eda
        refine ⟨_, rfl, .inl ⟨rfl, _, SqL.of (eda1 _)⟩, _, rfl, _, rfl, _, rfl, pa, _, _, .int o, rfl, rfl, SqL.of upd_same, atI_last _ _, (by show 3 ≤ sizeLine; decide), fun tp ntp => ?_⟩
        obtain ⟨n_tp_pa, ntp0⟩ := none_upd ntp
        have n_tp_da : tp ≠ da := fun e => by rw [e, eda1] at ntp; cases ntp
        refine ⟨da, _, _, rfl, rfl, (by rw [upd_ne n_tp_da.symm]; exact eda1 _), small1000 (by rw [g10.dds.len, g10.ld]; omega), ?_⟩
        refine ⟨as, ps ++ [o], hold, kvs, xs ++ [.ref tp], ds ++ [(t, W.wait, o)], _, _, _, _, _, _, rfl, ?_, ?_, ?_⟩
        · exact (((s8.trans s10').put npa0).put (s8.trans s10' |>.free ntp0)).put nda0
        · rw [upd_ne n_r_da, upd_ne (ne_of_none er10 ntp0), upd_ne n_r_pa]; exact er10
        · refine GenAt.done (tp := tp) ?_ ?_ ?_ ?_ ?_ ?_ (g10.gen.wait htm.1 htm.2 ho.1 ho.2) g10.val (by have := g10.lk; omega) g10.ld (by have := g10.la; omega) (by have := g10.lp; rw [List.length_append, List.length_singleton]; omega) g10.bd n_da_aw.symm n_da_pa.symm
          · rw [upd_ne (ne_of_none g10.eaw ntp0), upd_ne n_pa_aw.symm]; exact g10.eaw
          · rw [upd_ne n_tp_pa.symm, upd_same, List.map_append]; rfl
          · rw [upd_ne (ne_of_none g10.eha ntp0), upd_ne n_ha_pa]; exact g10.eha
          · rw [upd_ne n_tp_da.symm]; exact eda1 _
          · exact (g10.dds.tsame (tsame_put g10.epa)).tsame (tsame_same (same_new ntp))
          · rw [upd_same]; rfl
      have s10' : Same H8 H10 := s9.trans s10
      have g10 := g8.keep s10'
      have er10 := s10' _ _ er8
      refine PuS.if1 (c := 6 < kd) (PuT.pus (fun Qt q => ⟨_, rfl, _, _, rfl, rfl, _, rfl, q⟩)) (fun H11 s11 c3 => ?_) (fun H11 s11 c3 => ?_)
      · -- a lock
        have g11 := g10.keep s11
        have er11 := s11 _ _ er10
        refine ⟨_, rfl, .inl ⟨rfl, _, SqL.of g11.eda⟩, _, rfl, _, rfl, _, rfl, _, rfl, ha, t, pk, b, many, kvs, as, ps, hold, ds, rfl, g11.eha, (by have := g11.lk; omega), g11.val, hb, g11.gen, htm.1, htm.2, fun tp d kvs' hold' H12 ntp etp eha' lk' val' gen' kp => ?_⟩
        have n_da_ha' : da ≠ ha := n_da_ha
        have eda' := kp _ _ g11.eda n_da_ha
        refine ⟨da, _, _, rfl, rfl, eda', small1000 (by rw [g11.dds.len, g11.ld]; omega), ?_⟩
        have sH : Same H H12 := fun b' o' e => kp b' o' ((s8.trans (s10'.trans s11)) b' o' e) (ne_of_none e nha0)
        refine ⟨as, ps, hold', kvs', xs ++ [.ref tp], ds ++ [d], _, _, _, _, _, _, rfl, sH.put nda0, ?_, ?_⟩
        · rw [upd_ne n_r_da]; exact kp _ _ er11 n_r_ha
        · refine GenAt.done (tp := tp) (kp _ _ g11.eaw n_ha_aw.symm) (kp _ _ g11.epa n_ha_pa.symm) eha' eda' (g11.dds.tsame fun b' ys e => kp _ _ e (ne_of e g11.eha (by intro z; cases z))) etp gen' val' (by have := g11.lk; omega) g11.ld (by have := g11.la; omega) (by have := g11.lp; omega) g11.bd n_da_aw.symm n_da_pa.symm
      · -- a read or a write
        have g11 := g10.keep s11
        have er11 := s11 _ _ er10
        refine ⟨_, rfl, .inl ⟨rfl, _, SqL.of g11.eda⟩, _, rfl, (by show 3 ≤ sizeLine; decide), fun q nq => ?_⟩
        have r0 : 0 ≤ pk % 3 := by omega
        have sq : Same H11 (upd H11 q (.lst [.str "read", .str "read", .str "write"])) := same_new nq
        have g12 := g11.keep sq
        have er12 := sq _ _ er11
        obtain ⟨wd, hwd, ewd⟩ : ∃ wd : Str, (wd = W.read ∨ wd = W.write) ∧ atI [V.str "read", V.str "read", V.str "write"] (kd % 3) = some (V.str wd) := by
          have : kd % 3 = 0 ∨ kd % 3 = 1 ∨ kd % 3 = 2 := by omega
          rcases this with e | e | e
          · exact ⟨W.read, .inl rfl, by rw [e]; rfl⟩
          · exact ⟨W.read, .inl rfl, by rw [e]; rfl⟩
          · exact ⟨W.write, .inr rfl, by rw [e]; rfl⟩
        refine ⟨_, rfl, _, _, rfl, rfl, (by show (0 : Int) < 3; decide), q, _, _, .str wd, rfl, rfl, SqL.of upd_same, ewd, ?_⟩
        refine ⟨_, rfl, _, rfl, _, _, rfl, rfl, (by show (0 : Int) < 3; decide), _, _, rfl, rfl, (by show 3 ≤ sizeLine; decide), fun tp ntp => ?_⟩
        have n_tp_da : tp ≠ da := (ne_of_none g12.eda ntp).symm
        refine ⟨da, _, _, rfl, rfl, (by rw [upd_ne n_tp_da.symm]; exact g12.eda), small1000 (by rw [g12.dds.len, g12.ld]; omega), ?_⟩
        have st : Same (upd H11 q (.lst [.str "read", .str "read", .str "write"])) (upd (upd H11 q (.lst [.str "read", .str "read", .str "write"])) tp (.tup [.int t, .str wd, .int (b + pk % 3)])) := same_new ntp
        have g13 := g12.keep st
        refine ⟨as, ps, hold, kvs, xs ++ [.ref tp], ds ++ [(t, wd, b + pk % 3)], _, _, _, _, _, _, rfl, ((s8.trans (s10'.trans s11)).trans (sq.trans st)).put nda0, ?_, ?_⟩
        · rw [upd_ne n_r_da]; exact st _ _ er12
        · exact GenAt.done (tp := tp) g13.eaw g13.epa g13.eha g13.eda g13.dds upd_same (g13.gen.rw htm.1 htm.2 (by omega) hwd) g13.val (by have := g13.lk; omega) g13.ld (by have := g13.la; omega) (by have := g13.lp; omega) g13.bd n_da_aw.symm n_da_pa.symm
    · rintro σ H6 ⟨as, ps, hold, kvs, xs, ds, v7, v8, v9, v10, v11, v12, rfl, s6, er6, g⟩
      refine ⟨_, rfl, ?_⟩
      exact k da xs ds H6 s6 nda0 g.eda g.dds (by rw [g.ld, List.length_map, el]) g.gen.fa
end
end K
namespace K
open PySem L2 RC
abbrev wrAt (D : Nat → Deed) (x : Int) (k : Nat) : Prop := (D k).2.1 = W.write ∧ (D k).2.2 = x
theorem lastW_some {D : Nat → Deed} {x : Int} : ∀ {k j : Nat}, lastW D x k = some j → j < k ∧ wrAt D x j ∧ ∀ i, j < i → i < k → ¬ wrAt D x i
  | 0, j, h => by cases h
  | k + 1, j, h => by
    unfold lastW at h
    split at h
    · next z =>
      cases h
      exact ⟨by omega, z, fun i h1 h2 => by omega⟩
    · next z =>
      obtain ⟨h1, h2, h3⟩ := lastW_some h
      refine ⟨by omega, h2, fun i hi1 hi2 => ?_⟩
      rcases Nat.lt_succ_iff_lt_or_eq.mp hi2 with q | q
      · exact h3 i hi1 q
      · rw [q]; exact z
theorem lastW_none {D : Nat → Deed} {x : Int} : ∀ {k : Nat}, lastW D x k = none → ∀ i, i < k → ¬ wrAt D x i
  | 0, _, i, hi => by omega
  | k + 1, h, i, hi => by
    unfold lastW at h
    split at h
    · cases h
    · next z =>
      rcases Nat.lt_succ_iff_lt_or_eq.mp hi with q | q
      · exact lastW_none h i q
      · rw [q]; exact z
theorem lastW_eq {D : Nat → Deed} {x : Int} {k j : Nat} (hj : j < k) (h : wrAt D x j) (no : ∀ i, j < i → i < k → ¬ wrAt D x i) : lastW D x k = some j := by
  cases e : lastW D x k with
  | none => exact absurd h (lastW_none e j hj)
  | some i =>
    obtain ⟨h1, h2, h3⟩ := lastW_some e
    rcases Nat.lt_trichotomy i j with q | q | q
    · exact absurd h (h3 j q hj)
    · rw [q]
    · exact absurd h2 (no i q h1)
theorem lastW_woven {D D' : Nat → Deed} {g : Nat → Nat} {c k : Nat} {x : Int} (hk : k < c) (up : ∀ i j, i < j → j < c → g i < g j) (eq : ∀ i, i < c → D' i = D (g i)) (all : ∀ w, w < g k → wrAt D x w → ∃ i, i < c ∧ g i = w) :
    (lastW D' x k).map g = lastW D x (g k) := by
  have back : ∀ i j, i < c → j < c → g i < g j → i < j := fun i j hi hj h => by
    rcases Nat.lt_trichotomy i j with q | q | q
    · exact q
    · rw [q] at h; omega
    · have := up j i q hi; omega
  cases e : lastW D' x k with
  | none =>
    have no := lastW_none e
    cases e2 : lastW D x (g k) with
    | none => rfl
    | some w =>
      obtain ⟨h1, h2, _⟩ := lastW_some e2
      obtain ⟨i, hi, ei⟩ := all w h1 h2
      have hik : i < k := back i k hi hk (by rw [ei]; exact h1)
      refine absurd ?_ (no i hik)
      unfold wrAt
      rw [eq i hi, ei]
      exact h2
  | some j =>
    obtain ⟨h1, h2, h3⟩ := lastW_some e
    refine (lastW_eq (up j k h1 hk) ?_ fun w hw1 hw2 hw => ?_).symm
    · unfold wrAt at h2
      rw [eq j (by omega)] at h2
      exact h2
    · obtain ⟨i, hi, ei⟩ := all w hw2 hw
      have hik : i < k := back i k hi hk (by rw [ei]; exact hw2)
      have hji : j < i := back j i (by omega) hi (by rw [ei]; exact hw1)
      refine h3 i hji hik ?_
      unfold wrAt
      rw [eq i hi, ei]
      exact hw
structure FirstP (ds : List Deed) (q : Nat × Nat) : Prop where
  mem : q ∈ racesP ds
  le : ∀ r ∈ racesP ds, q.2 < r.2 ∨ (q.2 = r.2 ∧ q.1 ≤ r.1)
theorem race_of {ds : List Deed} {q : Nat × Nat} : q ∈ racesP ds ↔ Race (dAt ds) ds.length q.1 q.2 := by
  constructor
  · intro h
    obtain ⟨h1, h2, h3, h4⟩ := mem_allP.mp h
    unfold raceB at h4
    rw [Bool.and_eq_true, decide_eq_true_iff, Bool.not_eq_true', bfb_false] at h4
    exact ⟨h2, h3, h4.1, h4.2⟩
  · rintro ⟨h1, h2, h3, h4⟩
    refine mem_allP.mpr ⟨by omega, h1, h2, ?_⟩
    unfold raceB
    rw [Bool.and_eq_true, decide_eq_true_iff, Bool.not_eq_true', bfb_false]
    exact ⟨h3, h4⟩
theorem FirstP.first {ds : List Deed} {q : Nat × Nat} (f : FirstP ds q) : First (dAt ds) ds.length q.1 q.2 := by
  refine ⟨race_of.mp f.mem, fun a b r => ?_⟩
  have := f.le (a, b) (race_of.mpr r)
  dsimp only at this
  omega
theorem FirstP.inj {ds : List Deed} {q r : Nat × Nat} (f : FirstP ds q) (g : FirstP ds r) : q = r := by
  have h1 := f.le r g.mem
  have h2 := g.le q f.mem
  rcases q with ⟨a, b⟩
  rcases r with ⟨c, d⟩
  dsimp only at h1 h2
  have e1 : a = c := by omega
  have e2 : b = d := by omega
  rw [e1, e2]
theorem besP_or {ds : List Deed} {x y i : Nat} : besP ds x y i = true ↔ Bf (dAt ds) x i ∨ Bf (dAt ds) y i := by
  unfold besP
  rw [Bool.or_eq_true, bfb_iff, bfb_iff]
theorem sorted_needed {P : Nat → Bool} {n x y : Nat} (hx : x < n) (hy : y < n) (ne : x ≠ y) (px : P x = false) (py : P y = false) :
    ((List.range n).filter fun i => P i || (decide (i = x) || decide (i = y))).Perm ((List.range n).filter P ++ [x, y]) := by
  have nd := List.nodup_range (n := n)
  refine (List.perm_ext_iff_of_nodup (nd.filter _) ?_).mpr fun a => ?_
  · refine List.nodup_append.mpr ⟨nd.filter _, by simp [ne], fun a ha b hb e => ?_⟩
    subst e
    have := (List.mem_filter.mp ha).2
    rcases List.mem_cons.mp hb with q | q
    · rw [q, px] at this; cases this
    · rw [List.mem_singleton.mp q, py] at this; cases this
  · simp only [List.mem_filter, List.mem_append, List.mem_range, List.mem_cons, List.not_mem_nil, or_false, Bool.or_eq_true, decide_eq_true_iff]
    constructor
    · rintro ⟨h1, h2 | h2 | h2⟩
      · exact .inl ⟨h1, h2⟩
      · exact .inr (.inl h2)
      · exact .inr (.inr h2)
    · rintro (⟨h1, h2⟩ | h | h)
      · exact ⟨h1, .inl h2⟩
      · exact ⟨by omega, .inr (.inl h)⟩
      · exact ⟨by omega, .inr (.inr h)⟩
end K
namespace L2
open PySem PySem.Spec PyProof.Rows
section
variable {prog : Program} {w : World} {A : Around} {R : Result → Shared → Prop} {I : Addr} {fp wr : List Addr} {n : Nat} {P : Nat → Value → Prop} {St : Nat → Heap → Prop} {kw : List (Str × Value)}
abbrev bestObj (xs : Array Value) (c : Nat) : Obj := { cls := .type "list", dict := none, data := .seq xs c, slots := #[] }
end
end L2
namespace L2
open PySem PySem.Spec PyProof.Rows
section
variable {X : Cx} {pins : List (Addr × Obj)} {σ : List (Option V)} {H : Hp} {s : Shared} {h' : Heap}
theorem Inv.tabbed {P : Addr} {ps more : Array Value} {t' : Nat} (I : Inv X pins σ H s) (hP : H P = some (.tbl ps)) (k : ∀ b o, b ≠ P → s.heap.get? b = some o → h'.get? b = some o)
    (hn : h'.get? P = some (PySem.W.tabObj (ps ++ more))) : Inv X pins σ (upd H P (.tbl (ps ++ more))) { s with heap := h', toks := t' } := by
  have ne : ∀ b, H b = none → b ≠ P := fun b e z => by rw [z, hP] at e; cases e
  refine I.un ⟨fun b o e n _ _ => k b o (ne b n) e, fun b o e n _ _ => ⟨o.slots, k b o (ne b n) e⟩, fun b o _ n _ => by rw [upd_ne (ne b n)]; exact n, fun b o e _ => ?_, fun b xs e => ?_, fun b o u e => ?_, fun b qs e => ?_⟩ fun b u e => ?_
  · by_cases hb : b = P
    · exact ⟨_, hb ▸ hn⟩
    · exact ⟨o, k b o hb e⟩
  · rw [upd_ne (ne_of e hP (fun z => nomatch z))]; exact e
  · rw [upd_ne (ne_of e hP (fun z => nomatch z))]; exact e
  · by_cases hb : b = P
    · rw [hb] at e ⊢
      rw [hP] at e
      cases e
      exact ⟨more, upd_same⟩
    · exact ⟨#[], by rw [upd_ne hb, e]; simp⟩
  · by_cases hb : b = P
    · rw [hb] at e ⊢
      rw [upd_same] at e
      cases e
      exact hn
    · rw [upd_ne hb] at e
      refine (I.hok b u e).stay (fun c v hc q => k c v (fun z => ?_) q) (fun c q => ?_) fun c xs q => ?_
      · rcases hc with hc | hc
        · exact hb (hc.symm.trans z)
        · rw [z, hP] at hc; cases hc
      · rw [upd_ne (ne_of q hP (fun z => nomatch z))]; exact q
      · rw [upd_ne (ne_of q hP (fun z => nomatch z))]; exact q
structure Own (X : Cx) (pins : List (Addr × Obj)) (H : Hp) (b : Addr) : Prop where
  un : H b = none
  loc : b ≠ X.env.locals
  new : X.s₀.heap.objs.size ≤ b
  cel : ∀ x c, X.env.cells.lookup x = some c → c ≠ b
  pin : ∀ p ∈ X.pn ++ pins, p.1 ≠ b
  fr : b ∉ frs X.stack
theorem Own.made (I : Inv X pins σ H s) {b : Addr} (hb : s.heap.objs.size ≤ b) : Own X pins H b := by
  have lt : ∀ {c : Addr} {o : Obj}, s.heap.get? c = some o → c ≠ b := fun e => Nat.ne_of_lt (Nat.lt_of_lt_of_le (Heap.lt_size e) hb)
  refine ⟨I.hok.fresh hb, (Nat.ne_of_lt (Nat.lt_of_lt_of_le I.lt hb)).symm, Nat.le_trans I.sz hb, fun x c e => ?_, fun p hp => lt (I.pin p hp).1, fun hm => ?_⟩
  · obtain ⟨v, o, ho, _⟩ := I.cell x c e
    exact lt ho
  · rcases List.mem_cons.mp (I.stkSub b hm) with z | z
    · exact absurd z (Nat.ne_of_lt (Nat.lt_of_lt_of_le I.lt hb)).symm
    · exact I.nofs hb z
theorem Own.turned {t' : Nat} {b : Addr} (o : Own X pins H b) (I : Inv X pins σ H s) (k : ∀ c u, c ≠ b → s.heap.get? c = some u → h'.get? c = some u) : Inv X pins σ H { s with heap := h', toks := t' } :=
  I.turned k o.un o.loc (.inr o.new) o.cel o.pin
end
section
variable {P : Program} {w : World} {K : PySem.W.Frag} {mg : Str → Option Value} {base : Heap}
theorem lam_run {k : Nat} {f c' : Addr} {qual : Str} {params : Arguments} {body : Expr} {scope : Scope} {pm ctv : Value} {N ps : List Str} (S : FnScope N ps scope) {A : Around} {outer : List Env} {s : Shared} {H : Hp} {us : List Value} {vs : List V} {Q : VK} {E : XK}
    (hr : Room (k + 1) A) (e0 : Env0 P w K mg base A outer s H) (hf : s.heap.get? f = some (PySem.W.kla_obj "<lambda>" qual params body scope [] pm c' ctv)) (hcd : s.heap.CodeRec (.ref c') qual)
    (hb : bindArgs (PySem.W.kla_fn "<lambda>" qual params body scope [] pm (.ref c') ctv) ⟨us, []⟩ = pure (ps.zip us)) (hl : vs.length = ps.length) (r : Vals vs us) {t : TE}
    (ht : PE (cxOf CX0 P w K mg base N qual scope f (.ref c') A outer s H E) body t) (hq : t (start N vs) H Q) :
    codeAny (model P w) A (.call (.ref f) ⟨us, []⟩) (CR CX0 outer P w H s Q E) s := by
  have lim : s.heap.NoLimit := e0.mod.nolimit.keeps fun b o e => (e0.bs b o e).1
  have hkind : ∀ y ∈ ps.zip us, scope.names.lookup y.1 = some .local ∨ (scope.names.lookup y.1 = some .cell ∧ ((cellsFrom (s.heap.objs.size + 1) scope.names []).lookup y.1).isSome = true) := fun ⟨n, v⟩ hy => by
    rcases S.par n (List.of_mem_zip hy).1 with q | q
    · exact .inl q
    · exact .inr ⟨q, PySem.W.cellsFrom_some _ _ _ (.inl q)⟩
  refine PySem.W.kla_callFunE hr.depth hf rfl S.co S.gen rfl hcd ?_
  rw [hb]
  refine wpAny_pure (wpAny_newFunctionEnv_cells S.kind hkind fun env he s1 x => ?_)
  subst he
  refine ⟨lim.keeps x.toInCall.keep, PySem.W.kla_codeExpr ?_⟩
  have I : Inv (cxOf CX0 P w K mg base N qual scope f (.ref c') A outer s H E) [] (start N vs) H s1 := inv_start S hr.hd e0 hl r x
  exact wpAny_mono (ht [] s1 (start N vs) H _ I hq) (fun u s' ⟨v, H', J, rv, q⟩ => ⟨v, H', J.os, J.bare, J.base, J.hok, rv, q⟩) fun e s' hs => hs
end
end L2
namespace L2
open PySem PySem.Spec PyProof.Rows
theorem mn_name : (toString "min" ++ toString ".loop" : String) = "min.loop" := by decide
theorem vals_refs : ∀ {rs : List Addr} {its : List Value}, Vals (rs.map V.ref) its → its = rs.map Value.ref
  | [], _, .nil => rfl
  | _ :: _, _, .cons r t => by
    rw [vals_refs t]
    cases r
    rfl
def kLt (a b : Int × Int) : Bool := HT.lexLt [a.2, a.1] [b.2, b.1]
def KeyOk (X : Cx) (pins : List (Addr × Obj)) (σ : St) (Hb : Hp) (f : Addr) (rs : List Addr) (kf : Nat → Int × Int) : Prop :=
  ∀ (s : Shared) (H : Hp) (i : Nat) (r : Addr), Inv X pins σ H s → Same Hb H → rs[i]? = some r →
    wpAny (model X.prog X.w) X.A.in1 (call (.ref f) [.ref r]) (fun u s' => ∃ t H', Inv X pins σ H' s' ∧ u = .ref t ∧ Same H H' ∧ H' t = some (.tup [.int (kf i).2, .int (kf i).1]) ∧
      ∀ b o, Own X pins H b → s.heap.get? b = some o → s'.heap.get? b = some o ∧ Own X pins H' b) (fun _ _ => False) s
section
variable {X : Cx} {pins : List (Addr × Obj)} {σ : St} {Hb : Hp} {p f I B : Addr} {rs : List Addr} {kf : Nat → Int × Int} {R : Result → Shared → Prop} {kw : List (Str × Value)}
theorem mnk_list {s : Shared} {H : Hp} (J : Inv X pins σ H s) (hp : SqL X.K H p (rs.map V.ref)) : s.heap.IsList p (rs.map Value.ref).toArray := by
  obtain ⟨its, rv, pl, _⟩ := J.list hp
  rw [← vals_refs rv]
  exact pl.isList
theorem mnk_loop (hh : X.A.in1.handled = none) (hu : X.A.in1.units < cLine) (hpI : p ≠ I) (hBI : B ≠ I) (hp : SqL X.K Hb p (rs.map V.ref)) (key : KeyOk X pins σ Hb f rs kf)
    (fin : ∀ (m : Nat) (r : Addr) (s : Shared) (H : Hp), m = argBest (fun i j => kLt (kf i) (kf j)) (rs.length - 1) → rs[m]? = some r → Inv X pins σ H s → Same Hb H → R (.ok (.ret (.ref r))) s) :
    ∀ (k j : Nat) (s : Shared) (H : Hp) (r t : Addr) (c : Nat), rs.length - (j + 1) = k → j + 1 ≤ rs.length → Inv X pins σ H s → Same Hb H → Own X pins H I → Own X pins H B → s.heap.IsListIter I p (j + 1) →
      s.heap.get? B = some (bestObj #[.ref r, .ref t] c) → H t = some (.tup [.int (kf (argBest (fun i j => kLt (kf i) (kf j)) j)).2, .int (kf (argBest (fun i j => kLt (kf i) (kf j)) j)).1]) → rs[argBest (fun i j => kLt (kf i) (kf j)) j]? = some r →
      codeAny (model X.prog X.w) X.A (.builtin "min.loop" ⟨[.ref I, .ref f, .ref B], kw⟩) R s := by
  have W := Walks.list (prog := X.prog) (w := X.w) hh I p hpI (rs.map Value.ref).toArray
  have hn : (rs.map Value.ref).toArray.size = rs.length := by simp
  rw [hn] at W
  intro k
  induction k with
  | zero =>
    intro j s H r t c ek ej J sm oI oB st eB et er
    have en : j + 1 = rs.length := by omega
    refine codeAny_builtin F.entry_min_loop ?_
    rw [Around.under_plainId F.plain_min_loop _]
    show wpAny _ X.A.in1 (seqItems? (.ref B) >>= _) _ _ s
    refine wpAny_bind (wpAny_seqItems eB rfl ?_)
    show wpAny _ X.A.in1 (tryCatch (pyNext (.ref I)) _ >>= _) _ _ s
    refine wpAny_bind (wpAny_tryCatch (W.done s _ _ ⟨en ▸ st, mnk_list J (sm.seq hp)⟩ fun h1 tk keep => ?_))
    have eB1 := keep B _ (by simpa using hBI) eB
    have J1 : Inv X pins σ H { s with heap := h1, toks := tk } := oI.turned J fun b o hb e => keep b o (by simpa using hb) e
    show wpAny _ X.A.in1 (updateSeq B (fun _ => #[]) >>= _) _ _ _
    refine wpAny_bind (wpAny_updateSeq eB1 rfl (wpAny_bind (wpAny_letGo (wpAny_pure ?_))))
    refine fin _ r _ H (by rw [← en]; rfl) er ?_ sm
    exact oB.turned J1 fun b o hb e => (Heap.get?_update_other _ _ (Ne.symm hb)).trans e
  | succ k ih =>
    intro j s H r t c ek ej J sm oI oB st eB et er
    have lt : j + 1 < rs.length := by omega
    refine codeAny_builtin F.entry_min_loop ?_
    rw [Around.under_plainId F.plain_min_loop _]
    show wpAny _ X.A.in1 (seqItems? (.ref B) >>= _) _ _ s
    refine wpAny_bind (wpAny_seqItems eB rfl ?_)
    show wpAny _ X.A.in1 (tryCatch (pyNext (.ref I)) _ >>= _) _ _ s
    refine wpAny_bind (wpAny_tryCatch (W.item (j + 1) s _ _ lt ⟨st, mnk_list J (sm.seq hp)⟩ fun v h1 tk pv st1 keep => ?_))
    have eB1 := keep B _ (by simpa using hBI) eB
    have J1 : Inv X pins σ H { s with heap := h1, toks := tk } := oI.turned J fun b o hb e => keep b o (by simpa using hb) e
    have er2 : rs[j + 1]? = some rs[j + 1] := List.getElem?_eq_getElem lt
    generalize rs[j + 1] = r2 at er2
    obtain rfl : v = .ref r2 := by
      have pv' : (rs.map Value.ref)[j + 1]? = some v := by simpa using pv
      rw [List.getElem?_map, er2] at pv'
      exact (Option.some.inj pv').symm
    obtain ⟨oi, eoi, cls, dat⟩ := id st1.1
    show wpAny _ X.A.in1 (tryCatch (holding [.ref r2] (call (.ref f) [.ref r2])) _ >>= _) _ _ _
    refine wpAny_bind (wpAny_tryCatch (wpAny_holding (wpAny_mono (key _ H (j + 1) r2 J1 sm er2) (fun u s2 hk => ?_) fun _ _ hF => hF.elim)))
    obtain ⟨t2, H2, J2, rfl, sm2, et2, own2⟩ := hk
    obtain ⟨eI2, oI2⟩ := own2 I oi oI eoi
    obtain ⟨eB2, oB2⟩ := own2 B _ oB eB1
    have st2 : s2.heap.IsListIter I p (j + 1 + 1) := ⟨oi, eI2, cls, dat⟩
    obtain ⟨its1, r1, p1, _⟩ := J2.tuple (SqT.of et2)
    obtain ⟨its2, r3, p2, _⟩ := J2.tuple (SqT.of (sm2 _ _ et))
    show wpAny _ X.A.in1 (tryCatch (holding [.ref r2, .ref t2] (richCompare .Lt (.ref t2) (.ref t) >>= _)) _ >>= _) _ _ _
    refine wpAny_bind (wpAny_tryCatch (wpAny_holding (wpAny_bind (HT.lt_tupInts (ns := [(kf (j + 1)).2, (kf (j + 1)).1]) (ms := [(kf (argBest (fun i j => kLt (kf i) (kf j)) j)).2, (kf (argBest (fun i j => kLt (kf i) (kf j)) j)).1]) p1 p2 (intsAre_of r1) (intsAre_of r3) hu ?_))))
    refine wpAny_bind (wpAny_holding (wpAny_truthy_bool (wpAny_bind (wpAny_letGo (wpAny_pure ?_)))))
    have hst : argBest (fun i j => kLt (kf i) (kf j)) (j + 1) = if kLt (kf (j + 1)) (kf (argBest (fun i j => kLt (kf i) (kf j)) j)) = true then j + 1 else argBest (fun i j => kLt (kf i) (kf j)) j := rfl
    show wpAny _ X.A.in1 (if kLt (kf (j + 1)) (kf (argBest (fun i j => kLt (kf i) (kf j)) j)) = true then _ else _) _ _ _
    cases eb : kLt (kf (j + 1)) (kf (argBest (fun i j => kLt (kf i) (kf j)) j)) with
    | true =>
      rw [eb, if_pos rfl] at hst
      simp only [if_true]
      refine wpAny_bind (wpAny_updateSeq eB2 rfl (wpAny_bind (wpAny_letGo ?_)))
      rw [mn_name]
      have J3 := oB2.turned (h' := s2.heap.update B (Obj.mapSeq fun _ => #[.ref r2, .ref t2])) (t' := s2.toks) J2 fun b o hb e => (Heap.get?_update_other _ _ (Ne.symm hb)).trans e
      refine wpAny_pure ⟨plainId_quiet F.plain_min_loop _, ih (j + 1) _ H2 r2 t2 _ (by omega) lt J3 (sm.trans sm2) oI2 oB2 ⟨oi, (Heap.get?_update_other _ _ hBI).trans eI2, cls, dat⟩ (Heap.get?_update_self _ eB2 rfl) (by rw [hst]; exact et2) (by rw [hst]; exact er2)⟩
    | false =>
      rw [eb, if_neg (by decide)] at hst
      simp only [Bool.false_eq_true, if_false]
      refine wpAny_bind (wpAny_letGo ?_)
      rw [mn_name]
      exact wpAny_pure ⟨plainId_quiet F.plain_min_loop _, ih (j + 1) _ H2 r t c (by omega) lt J2 (sm.trans sm2) oI2 oB2 st2 eB2 (by rw [hst]; exact sm2 _ _ et) (by rw [hst]; exact er)⟩
end
end L2
namespace L2
open PySem PySem.Spec PyProof.Rows
section
variable {X : Cx} {pins : List (Addr × Obj)} {σ : St} {Hb : Hp} {p f I B : Addr} {rs : List Addr} {kf : Nat → Int × Int} {R : Result → Shared → Prop} {kw : List (Str × Value)}
theorem mnk_first (hh : X.A.in1.handled = none) (hu : X.A.in1.units < cLine) (hpI : p ≠ I) (hBI : B ≠ I) (hp : SqL X.K Hb p (rs.map V.ref)) (key : KeyOk X pins σ Hb f rs kf)
    (fin : ∀ (m : Nat) (r : Addr) (s : Shared) (H : Hp), m = argBest (fun i j => kLt (kf i) (kf j)) (rs.length - 1) → rs[m]? = some r → Inv X pins σ H s → Same Hb H → R (.ok (.ret (.ref r))) s)
    (hpos : 0 < rs.length) {s : Shared} {H : Hp} {c : Nat} (J : Inv X pins σ H s) (sm : Same Hb H) (oI : Own X pins H I) (oB : Own X pins H B) (st : s.heap.IsListIter I p 0) (eB : s.heap.get? B = some (bestObj #[] c)) :
    codeAny (model X.prog X.w) X.A (.builtin "min.loop" ⟨[.ref I, .ref f, .ref B], kw⟩) R s := by
  have W := Walks.list (prog := X.prog) (w := X.w) hh I p hpI (rs.map Value.ref).toArray
  have hn : (rs.map Value.ref).toArray.size = rs.length := by simp
  rw [hn] at W
  refine codeAny_builtin F.entry_min_loop ?_
  rw [Around.under_plainId F.plain_min_loop _]
  show wpAny _ X.A.in1 (seqItems? (.ref B) >>= _) _ _ s
  refine wpAny_bind (wpAny_seqItems eB rfl ?_)
  show wpAny _ X.A.in1 (tryCatch (pyNext (.ref I)) _ >>= _) _ _ s
  refine wpAny_bind (wpAny_tryCatch (W.item 0 s _ _ hpos ⟨st, mnk_list J (sm.seq hp)⟩ fun v h1 tk pv st1 keep => ?_))
  have eB1 := keep B _ (by simpa using hBI) eB
  have J1 : Inv X pins σ H { s with heap := h1, toks := tk } := oI.turned J fun b o hb e => keep b o (by simpa using hb) e
  have er2 : rs[0]? = some rs[0] := List.getElem?_eq_getElem hpos
  generalize rs[0] = r2 at er2
  obtain rfl : v = .ref r2 := by
    have pv' : (rs.map Value.ref)[0]? = some v := by simpa using pv
    rw [List.getElem?_map, er2] at pv'
    exact (Option.some.inj pv').symm
  obtain ⟨oi, eoi, cls, dat⟩ := id st1.1
  show wpAny _ X.A.in1 (tryCatch (holding [.ref r2] (call (.ref f) [.ref r2])) _ >>= _) _ _ _
  refine wpAny_bind (wpAny_tryCatch (wpAny_holding (wpAny_mono (key _ H 0 r2 J1 sm er2) (fun u s2 hk => ?_) fun _ _ hF => hF.elim)))
  obtain ⟨t2, H2, J2, rfl, sm2, et2, own2⟩ := hk
  obtain ⟨eI2, oI2⟩ := own2 I oi oI eoi
  obtain ⟨eB2, oB2⟩ := own2 B _ oB eB1
  show wpAny _ X.A.in1 (updateSeq B (fun _ => #[.ref r2, .ref t2]) >>= _) _ _ _
  refine wpAny_bind (wpAny_updateSeq eB2 rfl ?_)
  rw [mn_name]
  have J3 := oB2.turned (h' := s2.heap.update B (Obj.mapSeq fun _ => #[.ref r2, .ref t2])) (t' := s2.toks) J2 fun b o hb e => (Heap.get?_update_other _ _ (Ne.symm hb)).trans e
  exact wpAny_pure ⟨plainId_quiet F.plain_min_loop _, mnk_loop hh hu hpI hBI hp key fin _ 0 _ H2 r2 t2 _ rfl hpos J3 (sm.trans sm2) oI2 oB2 ⟨oi, (Heap.get?_update_other _ _ hBI).trans eI2, cls, dat⟩ (Heap.get?_update_self _ eB2 rfl) et2 er2⟩
theorem mnk_empty (hh : X.A.in1.handled = none) (hpI : p ≠ I) (hp : SqL X.K Hb p (([] : List Addr).map V.ref)) {s : Shared} {H : Hp} {c : Nat} {d : Value} {nm : Str} (J : Inv X pins σ H s) (sm : Same Hb H) (oI : Own X pins H I) (st : s.heap.IsListIter I p 0) (eB : s.heap.get? B = some (bestObj #[] c))
    (fin : ∀ s', Inv X pins σ H s' → R (.ok (.ret d)) s') : codeAny (model X.prog X.w) X.A (.builtin "min.loop" ⟨[.ref I, .ref f, .ref B], [(nm, d)]⟩) R s := by
  have W := Walks.list (prog := X.prog) (w := X.w) hh I p hpI (([] : List Addr).map Value.ref).toArray
  refine codeAny_builtin F.entry_min_loop ?_
  rw [Around.under_plainId F.plain_min_loop _]
  show wpAny _ X.A.in1 (seqItems? (.ref B) >>= _) _ _ s
  refine wpAny_bind (wpAny_seqItems eB rfl ?_)
  show wpAny _ X.A.in1 (tryCatch (pyNext (.ref I)) _ >>= _) _ _ s
  refine wpAny_bind (wpAny_tryCatch (W.done s _ _ ⟨st, mnk_list J (sm.seq hp)⟩ fun h1 tk keep => ?_))
  have J1 : Inv X pins σ H { s with heap := h1, toks := tk } := oI.turned J fun b o hb e => keep b o (by simpa using hb) e
  exact wpAny_bind (wpAny_rule (wpAny_pure (fin _ J1)))
theorem args_minKD (a v d : Value) : argsOk "min" ⟨[a], [("key", v), ("default", d)]⟩ := by unfold argsOk; kernel_rfl
theorem call_minK (hc : X.calm = true) (hu : X.A.in1.units < cLine) {s : Shared} {Q : Value → Shared → Prop} (J : Inv X pins σ Hb s) (hp : SqL X.K Hb p (rs.map V.ref)) (key : KeyOk X pins σ Hb f rs kf)
    (f0 : rs = [] → ∀ s', Inv X pins σ Hb s' → Q .none s')
    (fin : ∀ (m : Nat) (r : Addr) (s : Shared) (H : Hp), m = argBest (fun i j => kLt (kf i) (kf j)) (rs.length - 1) → rs[m]? = some r → Inv X pins σ H s → Same Hb H → Q (.ref r) s) :
    wpAny (model X.prog X.w) X.A (call (.builtin "min") [.ref p] [("key", .ref f), ("default", .none)]) Q X.xe s := by
  have hh : X.A.in1.handled = none := J.ok.hd hc
  have pl := mnk_list J hp
  have plt : p < s.heap.objs.size := by obtain ⟨o, e, _⟩ := pl; exact Heap.lt_size e
  refine kmk_tree F.kind_min F.plain_min F.entry_min (args_minKD _ _ _) ?_
  show wpAny _ X.A.in1 (Builtin.Builtins.bindParams "min" ["key", "default"] 0 ⟨[], [("key", .ref f), ("default", .none)]⟩ >>= _) _ _ s
  refine wpAny_bind (wpAny_of_eq (show Builtin.Builtins.bindParams "min" ["key", "default"] 0 ⟨[], [("key", .ref f), ("default", .none)]⟩ = pure [some (.ref f), some .none] from rfl) (wpAny_bind (wpAny_pure ?_)))
  refine wpAny_bind (wpAny_pyIter_list pl (wpAny_bind (wpAny_newObj_type ?_)))
  have k1 : ∀ b o, s.heap.get? b = some o → (s.heap.push { cls := .type "list_iterator", data := .fields #[.ref p, .int 0 0] }).get? b = some o := fun b o e => Heap.get?_push_of_some _ e
  have sz1 : (s.heap.push { cls := .type "list_iterator", data := .fields #[.ref p, .int 0 0] }).objs.size = s.heap.objs.size + 1 := Heap.size_push _ _
  have st0 : (s.heap.push { cls := .type "list_iterator", data := .fields #[.ref p, .int 0 0] }).IsListIter s.heap.objs.size p 0 := ⟨_, Heap.get?_push_size _ rfl, rfl, rfl⟩
  generalize s.heap.push { cls := .type "list_iterator", data := .fields #[.ref p, .int 0 0] } = h1 at k1 sz1 st0
  have k2 : ∀ b o, s.heap.get? b = some o → (h1.push { cls := .type "list", data := .seq ([] : List Value).toArray }).get? b = some o := fun b o e => Heap.get?_push_of_some _ (k1 b o e)
  have eB : (h1.push { cls := .type "list", data := .seq ([] : List Value).toArray }).get? h1.objs.size = some (bestObj #[] 0) := Heap.get?_push_size _ rfl
  have st2 : (h1.push { cls := .type "list", data := .seq ([] : List Value).toArray }).IsListIter s.heap.objs.size p 0 := by
    obtain ⟨o, e, r⟩ := st0
    exact ⟨o, Heap.get?_push_of_some _ e, r⟩
  have hBI : h1.objs.size ≠ s.heap.objs.size := by rw [sz1]; exact Nat.succ_ne_self _
  have oI := Own.made J (Nat.le_refl s.heap.objs.size)
  have oB := Own.made J (show s.heap.objs.size ≤ h1.objs.size by rw [sz1]; exact Nat.le_succ _)
  rw [mn_name]
  have J2 := fun tk => J.kept (h' := h1.push { cls := .type "list", data := .seq ([] : List Value).toArray }) (t' := tk) k2
  by_cases hn : rs = []
  · rw [hn] at hp
    exact wpAny_pure ⟨plainId_quiet F.plain_min_loop _, mnk_empty hh (Nat.ne_of_lt plt) hp (J2 _) (Same.refl _) oI st2 eB fun s' J' => f0 hn s' J'⟩
  · exact wpAny_pure ⟨plainId_quiet F.plain_min_loop _, mnk_first hh hu (Nat.ne_of_lt plt) hBI hp key (fun m r s' H' e1 e2 J' sm => fin m r s' H' e1 e2 J' sm) (List.length_pos_iff.mpr hn) (J2 _) (Same.refl _) oI oB st2 eB⟩
end
end L2
namespace L2
open PySem PySem.Spec PyProof.Rows
theorem kLt_iff {a b : Int × Int} : kLt a b = true ↔ a.2 < b.2 ∨ (a.2 = b.2 ∧ a.1 < b.1) := by
  unfold kLt
  rw [HT.lexLt_cons, HT.lexLt_cons, HT.lexLt_nil_nil]
  by_cases h : a.2 = b.2
  · rw [if_pos h]
    by_cases h' : a.1 = b.1
    · rw [if_pos h']
      constructor
      · intro z; cases z
      · intro z; omega
    · rw [if_neg h', decide_eq_true_iff]
      omega
  · rw [if_neg h, decide_eq_true_iff]
    omega
theorem argBest_min {kf : Nat → Int × Int} : ∀ (k i : Nat), i ≤ k → ¬ kLt (kf i) (kf (argBest (fun i j => kLt (kf i) (kf j)) k)) = true
  | 0, i, h => by
    have : i = 0 := by omega
    subst this
    show ¬ kLt (kf 0) (kf 0) = true
    rw [kLt_iff]
    omega
  | k + 1, i, h => by
    show ¬ kLt (kf i) (kf (if kLt (kf (k + 1)) (kf (argBest (fun i j => kLt (kf i) (kf j)) k)) = true then k + 1 else argBest (fun i j => kLt (kf i) (kf j)) k)) = true
    by_cases q : kLt (kf (k + 1)) (kf (argBest (fun i j => kLt (kf i) (kf j)) k)) = true
    · rw [if_pos q]
      rcases Nat.lt_or_eq_of_le h with z | z
      · have ih := argBest_min (kf := kf) k i (by omega)
        rw [kLt_iff] at ih q ⊢
        omega
      · rw [z, kLt_iff]
        omega
    · rw [if_neg q]
      rcases Nat.lt_or_eq_of_le h with z | z
      · exact argBest_min k i (by omega)
      · rw [z]
        exact q
theorem refs_of : ∀ {vs : List V}, (∀ v ∈ vs, ∃ a, v = .ref a) → ∃ rs : List Addr, vs = rs.map V.ref
  | [], _ => ⟨[], rfl⟩
  | v :: vs, h => by
    obtain ⟨a, rfl⟩ := h v (List.mem_cons_self ..)
    obtain ⟨rs, e⟩ := refs_of fun u hu => h u (List.mem_cons_of_mem _ hu)
    exact ⟨a :: rs, by rw [e]; rfl⟩
theorem Prs.refs {H : Hp} {vs : List V} {ps : List (Nat × Nat)} (h : Prs H vs ps) : ∃ rs : List Addr, vs = rs.map V.ref := refs_of fun v hv => by
  obtain ⟨i, hi, e⟩ := List.getElem_of_mem hv
  obtain ⟨t, q, e', _⟩ := h.get (k := i) (v := v) (by rw [← e]; exact List.getElem?_eq_getElem hi)
  exact ⟨t, e'⟩
def BM (mg : Str → Option Value) (base : Heap) : Prop :=
  ∃ bm ob, mg "__builtins__" = some (.ref bm) ∧ bm ≠ builtinsNs ∧ base.get? bm = some ob ∧ ob.cls = .type "module" ∧ ob.dict = some builtinsNs ∧ ob.data = .plain
def Sb (P : Addr) (H H' : Hp) : Prop := ∀ b o, b ≠ P → H b = some o → H' b = some o
def rMinK (K : PySem.W.Frag) (P : Addr) : List V → Hp → VK → Prop := fun vs H Q => ∃ (p : Addr) (xs : List V) (l : List (Nat × Nat)), vs = [.ref p] ∧ SqL K H p xs ∧ Prs H xs l ∧ H P = some (.tbl #[]) ∧ (l = [] → ∀ H', Sb P H H' → Q .non H') ∧
  ∀ (q : Nat × Nat) (r : Addr) (H' : Hp), q ∈ l → (∀ z ∈ l, q.2 < z.2 ∨ (q.2 = z.2 ∧ q.1 ≤ z.1)) → Sb P H H' → H' r = some (.tup [.int (q.1 : Int), .int (q.2 : Int)]) → Q (.ref r) H'
abbrev lamB (p1 q1 r1 p2 q2 r2 tp : Pos) (j1 j2 jt : Nat) : Expr := .Tuple [.Subscript (.Name "pair" p1) (.Constant (.int 1) j1 q1) r1, .Subscript (.Name "pair" p2) (.Constant (.int 0) j2 q2) r2] jt tp
theorem boot_min' : bootBuiltins "min" = some (.builtin "min") := by decide +kernel
section
variable {X : Cx} {pins : List (Addr × Obj)} {σ : St} {Hb : Hp} {f c' : Addr} {rs : List Addr} {kf : Nat → Int × Int} {p1 q1 r1 p2 q2 r2 tp : Pos} {j1 j2 jt : Nat} {qual : Str} {params : Arguments} {scope : Scope} {pm ctv : Value} {oc : Obj}
theorem key_lam {k : Nat} (hr : Room (k + 1) X.A.in1) (S : FnScope ["pair"] ["pair"] scope) (pinF : (f, PySem.W.kla_obj "<lambda>" qual params (lamB p1 q1 r1 p2 q2 r2 tp j1 j2 jt) scope [] pm c' ctv) ∈ pins) (pinC : (c', oc) ∈ pins)
    (hoc : ∃ vs t, oc.data = .fields vs ∧ vs[1]? = some (.str qual t))
    (hb : ∀ u : Value, bindArgs (PySem.W.kla_fn "<lambda>" qual params (lamB p1 q1 r1 p2 q2 r2 tp j1 j2 jt) scope [] pm (.ref c') ctv) ⟨[u], []⟩ = pure [(("pair" : Str), u)])
    (hk : ∀ i r, rs[i]? = some r → Hb r = some (.tup [.int (kf i).1, .int (kf i).2])) : KeyOk X pins σ Hb f rs kf := by
  intro s H i r J sm er
  obtain ⟨vs, t0, hd, hv⟩ := hoc
  have hf := (J.pin _ (List.mem_append_right _ pinF)).1
  have hcr : s.heap.CodeRec (.ref c') qual := ⟨c', oc, vs, t0, rfl, (J.pin _ (List.mem_append_right _ pinC)).1, hd, hv⟩
  have er' := sm _ _ (hk i r er)
  have vis : Vis scope "pair" := by
    rcases S.par "pair" (by simp) with q | q
    · exact .inl q
    · exact .inr (.inl q)
  refine wpAny_call (codeAny_mono (lam_run (k := k) S (E := E0) (vs := [.ref r]) (Q := fun v H' => ∃ t, v = .ref t ∧ H t = none ∧ H' = upd H t (.tup [.int (kf i).2, .int (kf i).1])) hr J.env0.in1 hf hcr (hb (.ref r)) rfl (.cons rfl .nil)
    (t := tTup (tCons (tOp (rIxT X.K) (tVar 0) (tC (.int 1))) (tCons (tOp (rIxT X.K) (tVar 0) (tC (.int 0))) tNil))) ?pe ?q) fun rr s' hq => ?_)
  case pe => exact pe_tup (pa_cons (pe_ix ix_tup (pv 0 rfl vis) pe_int (fun _ _ => rfl)) (pa_cons (pe_ix ix_tup (pv 0 rfl vis) pe_int (fun _ _ => rfl)) pa_nil))
  case q =>
    refine ⟨_, rfl, r, _, 1, _, rfl, rfl, SqT.of er', rfl, _, rfl, r, _, 0, _, rfl, rfl, SqT.of er', rfl, (by show 2 ≤ sizeLine; decide), fun t nt => ⟨t, rfl, nt, rfl⟩⟩
  cases rr with
  | error e => exact False.elim hq
  | ok fl =>
    cases fl with
    | next => exact False.elim hq
    | brk => exact False.elim hq
    | cont => exact False.elim hq
    | ret u =>
      obtain ⟨v, H', os, bare, un, hok, rv, t, rfl, nt, rfl⟩ := hq
      have Ja : EP X pins σ (fun v H'' => v = .ref t ∧ H'' = upd H t (.tup [.int (kf i).2, .int (kf i).1])) u s' := J.after ⟨_, _, os, bare, un, hok, rv, rfl, rfl⟩
      obtain ⟨v, H', J', rv', rfl, rfl⟩ := Ja
      exact ⟨t, _, J', rv', same_new nt, upd_same, fun b o ob e => ⟨un.keep b o e ob.un ob.fr (by simp), ⟨un.free b o e ob.un (by simp), ob.loc, ob.new, ob.cel, ob.pin, ob.fr⟩⟩⟩
theorem pe_minK {k : Nat} {c P : Addr} {p pos kp1 kp2 lp cp : Pos} {jj : Nat} {e : Expr} {t : TA} (hc : X.calm = true) (hr : Room (k + 2) X.A) (hg : Gl X "min") (hm : X.mg "min" = none) (ha : PA X [e] t) (hcode : X.env.code = .ref c) (hcd : PySem.W.codeHdIn X.K c P = true) (bm : BM X.mg X.base)
    (S : FnScope ["pair"] ["pair"] scope) (hcl : closureFor scope X.env = pure []) (hdf : defaultsOf params X.env = ([], []))
    (hb : ∀ (qual : Str) (pm cdv ctv u : Value), bindArgs (PySem.W.kla_fn "<lambda>" qual params (lamB p1 q1 r1 p2 q2 r2 tp j1 j2 jt) scope [] pm cdv ctv) ⟨[u], []⟩ = pure [(("pair" : Str), u)])
    (he : starEach [e] X.env = [(false, eval e X.env)] := by rfl) :
    PE X (.Call (.Name "min" p) [e] [⟨some "key", .Lambda params (lamB p1 q1 r1 p2 q2 r2 tp j1 j2 jt) scope lp, kp1⟩, ⟨some "default", .Constant .none jj cp, kp2⟩] pos) (tCB (rMinK X.K P) t) := by
  intro pins s σ H Q I h
  refine wpAny_Call_Name_kw (ld_blt I hg hm boot_min' ?_ (by decide) (by decide))
  refine PyProof.Rows.callWith_kw (thn (ha pos pins s σ H _ I h) fun us s1 ⟨vs, H1, J1, rV, qV⟩ => ?_) (by rw [he]; rfl) (by rw [he]; rfl)
  obtain ⟨p, xs, l, rfl, hp, hl, hP, q0, qf⟩ := qV
  obtain ⟨u, rfl, ru⟩ := vals1 rV
  cases ru
  obtain ⟨rs, rfl⟩ := hl.refs
  have hPo : s1.heap.get? P = some (PySem.W.tabObj #[]) := J1.hok P _ hP
  have hns := J1.ok.mod.glob.keeps J1.bk
  have hgP : mainGlobals ≠ P := fun z => by
    obtain ⟨o, es, ep, e, hd, _⟩ := hns
    rw [z, hPo] at e; cases e; cases hd
  obtain ⟨bmo, ob, b1, b2, b3, b4, b5, b6⟩ := bm
  have b3' := J1.bk _ _ b3
  have hbP : bmo ≠ P := fun z => by rw [z, hPo] at b3'; cases b3'; cases b4
  have hbG : bmo ≠ mainGlobals := fun z => by
    obtain ⟨o, es, ep, e, hd, _⟩ := hns
    rw [z, e] at b3'; cases b3'; rw [hd] at b6; cases b6
  refine PyProof.Rows.kws_cons (PySem.W.kla_eval hdf (PySem.W.kla_makeFunction (c := c) (P := P) (ps := #[]) (mg := X.mg) hcl J1.ok.glob hns hcode (PySem.W.codeHd_of_K J1.kIn hcd) hPo trivial rfl hgP ⟨bmo, ob, b1, b2, hbG, hbP, b3', b4, b5, b6⟩ fun c' ctv h' tk hx hge hlt hrec htab => ?_))
  refine PyProof.Rows.kws_cons (wpAny_Constant_none (PyProof.Rows.kws_nil ?_))
  obtain ⟨c2, oc, vs, t0, ec, hoc, hd, hv⟩ := hrec
  cases ec
  have J2 := J1.tabbed (t' := tk) hP (fun b o hb e => hx b o hb e) htab
  have J3 := J2.kept (t' := tk) (fun b o e => Heap.get?_push_of_some (PySem.W.kla_obj "<lambda>" (X.env.qual ++ "<lambda>") params (lamB p1 q1 r1 p2 q2 r2 tp j1 j2 jt) scope [] ((X.mg "__name__").getD .none) c' ctv) e)
  have hPc : c' ≠ P := (Nat.ne_of_lt (Nat.lt_of_lt_of_le (Heap.lt_size hPo) hge)).symm
  have J4 := J3.pins_of (pins' := (h'.objs.size, PySem.W.kla_obj "<lambda>" (X.env.qual ++ "<lambda>") params (lamB p1 q1 r1 p2 q2 r2 tp j1 j2 jt) scope [] ((X.mg "__name__").getD .none) c' ctv) :: (c', oc) :: pins) fun q hq => by
    rcases List.mem_cons.mp hq with rfl | hq
    · exact ⟨Heap.get?_push_size _ rfl, J2.hok.fresh (Nat.le_refl _), (Nat.ne_of_lt J2.lt).symm, J2.nofs (Nat.le_refl _), fun v z => nomatch z⟩
    · rcases List.mem_cons.mp hq with rfl | hq
      · refine ⟨Heap.get?_push_of_some _ hoc, ?_, (Nat.ne_of_lt (Nat.lt_of_lt_of_le J1.lt hge)).symm, J1.nofs hge, fun v z => by rw [hd] at z; cases z⟩
        rw [upd_ne hPc]
        exact J1.hok.fresh hge
      · exact J3.pin q (List.mem_append_right _ hq)
  have sb : ∀ {H' : Hp}, Same (upd H1 P (.tbl (#[] ++ #[rawInt lp.line, rawInt lp.col, .ref c']))) H' → Sb P H1 H' := fun s' b o hb e => s' b o (by rw [upd_ne hb]; exact e)
  have back : ∀ {H' : Hp} {s' : Shared}, Inv X ((h'.objs.size, PySem.W.kla_obj "<lambda>" (X.env.qual ++ "<lambda>") params (lamB p1 q1 r1 p2 q2 r2 tp j1 j2 jt) scope [] ((X.mg "__name__").getD .none) c' ctv) :: (c', oc) :: pins) σ H' s' → Inv X pins σ H' s' := fun J' =>
    J'.pins_of fun q hq => J'.pin q (List.mem_append_right _ (List.mem_cons_of_mem _ (List.mem_cons_of_mem _ hq)))
  have tupS : ∀ b zs, H1 b = some (.tup zs) → upd H1 P (.tbl (#[] ++ #[rawInt lp.line, rawInt lp.col, .ref c'])) b = some (.tup zs) := fun b zs e => by rw [upd_ne (ne_of e hP (fun z => nomatch z))]; exact e
  have hp' : SqL X.K (upd H1 P (.tbl (#[] ++ #[rawInt lp.line, rawInt lp.col, .ref c']))) p (rs.map V.ref) := by
    rcases hp with (hp | ⟨o, hp⟩) | hp
    · exact .inl (.inl (by rw [upd_ne (ne_of hp hP (fun z => nomatch z))]; exact hp))
    · exact .inl (.inr ⟨o, by rw [upd_ne (ne_of hp hP (fun z => nomatch z))]; exact hp⟩)
    · exact .inr hp
  have hln : rs.length = l.length := by have := hl.len; rw [List.length_map] at this; exact this
  have rget : ∀ i r, rs[i]? = some r → ∃ q : Nat × Nat, l[i]? = some q ∧ H1 r = some (.tup [.int (q.1 : Int), .int (q.2 : Int)]) := fun i r er => by
    obtain ⟨t, q, e1, e2, e3⟩ := hl.get (k := i) (v := .ref r) (by rw [List.getElem?_map, er]; rfl)
    cases e1
    exact ⟨q, e2, e3⟩
  refine call_minK (kf := fun i => (((l.getD i (0, 0)).1 : Int), ((l.getD i (0, 0)).2 : Int))) hc hr.in1.units0 J4 hp' (key_lam (k := k) hr.in1 S (List.mem_cons_self ..) (List.mem_cons_of_mem _ (List.mem_cons_self ..)) ⟨vs, t0, hd, hv⟩ (hb _ _ _ _) fun i r er => ?_) (fun e s' J' => ?_) fun m r s' H' em er J' sm => ?_
  · obtain ⟨q, e1, e2⟩ := rget i r er
    show _ = some (HO.tup [V.int (((l.getD i (0, 0)).1 : Nat) : Int), V.int (((l.getD i (0, 0)).2 : Nat) : Int)])
    rw [List.getD_eq_getElem?_getD, e1]
    exact tupS _ _ e2
  · exact ⟨.non, _, back J', rfl, q0 (List.eq_nil_of_length_eq_zero (by rw [← hln, e]; rfl)) _ (sb (Same.refl _))⟩
  · obtain ⟨q, e1, e2⟩ := rget m r er
    refine ⟨.ref r, H', back J', rfl, qf q r H' (List.mem_of_getElem? e1) (fun z hz => ?_) (sb sm) (sm _ _ (tupS _ _ e2))⟩
    obtain ⟨i, hi, ez⟩ := List.getElem_of_mem hz
    have hmin := argBest_min (kf := fun i => (((l.getD i (0, 0)).1 : Int), ((l.getD i (0, 0)).2 : Int))) (rs.length - 1) i (by omega)
    rw [← em, kLt_iff] at hmin
    dsimp only at hmin
    rw [List.getD_eq_getElem?_getD, List.getD_eq_getElem?_getD, e1, List.getElem?_eq_getElem hi, ez] at hmin
    simp only [Option.getD_some] at hmin
    omega
end
end L2
namespace L2
open PySem PySem.Spec PyProof.Rows
def OnlyT (P : Addr) (H : Hp) : Prop := ∀ b, H b = none ∨ (∃ o xs, H b = some (.frz o (.lst xs))) ∨ (b = P ∧ H b = some (.tbl #[]))
theorem law_callT {P : Program} {w : World} {K : PySem.W.Frag} {mg mb : Str → Option Value} {CX : CXT} {k : Nat} {fa a tc tP : Addr} {fd : FuncData} {x : Str} {sp : Sp} {s₁ : Shared} {vs : List Value} {ns : List Int}
    (KX : K.In s₁.heap) (hns : s₁.heap.Ns mainGlobals mg) (hb : s₁.heap.Ns builtinsNs mb) (hbb : ∀ x : Str, x ≠ "__name__" → mb x = bootBuiltins x) (hlim : s₁.heap.NoLimit) (hg : s₁.gens = #[])
    (hbm : BM mg s₁.heap) (hT : s₁.heap.get? tP = some (PySem.W.tabObj #[])) (hTK : K.lookup tP = none) (hTc : PySem.W.codeHdIn K tc tP = true)
    (ha : s₁.heap.get? a = some { cls := .type "list", data := .seq vs.toArray }) (hi : IntsAre vs ns) (hl : ns.length ≤ sizeLine) (hr : Room k callerA)
    (F : ∀ base : Heap, K.In base → base.Ns mainGlobals mg → BM mg base → FnOk P w K mg base CX k fa fd [x] sp) (hbind : ∀ (s : Shared) (u : Value), BindsTo s fd ⟨[u], []⟩ [(x, u)])
    (hsp : ∀ H : Hp, H tP = some (.tbl #[]) → SqL K H a (ns.map V.int) → sp [.ref a] H (fun v _ => v = .bl true) fun _ _ _ => False)
    (hCX : ∀ H e s', CX [] H s₁ (fun _ _ _ => False) e s' → False) :
    codeAny (model P w) callerA (.call (.ref fa) ⟨[.ref a], []⟩) (fun r s' => r = .ok (.ret (.bool true)) ∧ OldK s₁.heap s'.heap ∧ s'.os = s₁.os ∧ AllBare s'.gens) s₁ := by
  have rv := vals_ints hi
  have lenV := hi.length
  have aP : a ≠ tP := fun z => by rw [z, hT] at ha; cases ha
  have core : ∀ H : Hp, OnlyT tP H → H tP = some (.tbl #[]) → SqL K H a (ns.map V.int) → HOk P w H s₁.heap → (∀ b, H b ≠ none → b = a ∨ b = tP) → (H a ≠ none → K.lookup a = none) →
      codeAny (model P w) callerA (.call (.ref fa) ⟨[.ref a], []⟩) (fun r s' => r = .ok (.ret (.bool true)) ∧ OldK s₁.heap s'.heap ∧ s'.os = s₁.os ∧ AllBare s'.gens) s₁ := by
    intro H hO hHT hS hok hA hK
    have base_of : ∀ {b : Addr} {o : Obj}, s₁.heap.get? b = some o → H b = none → (hidT s₁.heap H).get? b = some o := fun e n => hidT_get e n
    have noA : ∀ {b : Addr} {o : Obj}, s₁.heap.get? b = some o → (∀ its c, o.data ≠ .seq its c) → (∀ fs, o.data ≠ .fields fs) → H b = none := fun {b o} e d1 d2 => by
      cases q : H b with
      | none => rfl
      | some u =>
        rcases hA b (by rw [q]; simp) with e' | e'
        · subst e'
          rw [ha] at e; cases e
          exact absurd rfl (d1 _ _)
        · subst e'
          rw [hT] at e; cases e
          exact absurd rfl (d2 _)
    have nsK : ∀ {b : Addr} {m : Str → Option Value}, s₁.heap.Ns b m → (hidT s₁.heap H).Ns b m := fun {b m} ⟨o, es, ep, e, d, r⟩ => ⟨o, es, ep, base_of e (noA e (fun _ _ z => by rw [d] at z; cases z) fun _ z => by rw [d] at z; cases z), d, r⟩
    have hKb : K.In (hidT s₁.heap H) := fun b o e => base_of (KX b o e) (by
      cases q : H b with
      | none => rfl
      | some u =>
        rcases hA b (by rw [q]; simp) with e' | e'
        · subst e'
          rw [hK (by rw [q]; simp)] at e; cases e
        · subst e'
          rw [hTK] at e; cases e)
    have hM : Mod K mg (hidT s₁.heap H) := ⟨hKb, nsK hns, ⟨mb, nsK hb, hbb⟩, let ⟨mc, h1, h2⟩ := hlim; ⟨mc, nsK h1, h2⟩⟩
    have hB : BM mg (hidT s₁.heap H) := by
      obtain ⟨bm, ob, b1, b2, b3, b4, b5, b6⟩ := hbm
      exact ⟨bm, ob, b1, b2, base_of b3 (noA b3 (fun _ _ z => by rw [b6] at z; cases z) fun _ z => by rw [b6] at z; cases z), b4, b5, b6⟩
    have e0 : Env0 P w K mg (hidT s₁.heap H) callerA [] s₁ H := ⟨rfl, hM, fun b o e => of_hidT e, Nat.le_of_eq (hidT_size _ _), trivial, fun b hb => absurd (show b ∈ ([] : List Addr) from hb) (by simp), hok, .of_eq hg⟩
    refine codeAny_mono ((F _ hKb (nsK hns) hB).run callerA [] s₁ H ⟨[.ref a], []⟩ [.ref a] [.ref a] _ _ hr e0 (hbind s₁ (.ref a)) (.cons rfl .nil) (hsp H hHT hS)) fun r s' h => ?_
    cases r with
    | error e => exact (hCX H e s' h).elim
    | ok fl =>
      cases fl with
      | next => exact False.elim h
      | brk => exact False.elim h
      | cont => exact False.elim h
      | ret u =>
        obtain ⟨v, H', os, bare, un, hok', r', q⟩ := h
        have q' : v = .bl true := q
        subst q'
        obtain rfl : u = Value.bool true := r'
        refine ⟨rfl, ⟨fun b o e => ?_, fun b o e => un.there b o e (by simp)⟩, os, bare⟩
        cases q : H b with
        | none => exact .inl (un.keep b o e q (by intro z; exact absurd (show b ∈ ([] : List Addr) from z) (by simp)) (by simp))
        | some u =>
          rcases hO b with z | ⟨ob, xs, z⟩ | ⟨rfl, z⟩
          · rw [q] at z; cases z
          · have z2 := un.frzs b ob _ z
            obtain ⟨e1, _⟩ := hok b _ z
            obtain ⟨e2, _⟩ := hok' b _ z2
            rw [e] at e1; cases e1
            exact .inl e2
          · obtain ⟨more, z2⟩ := un.tbls b _ z
            have e2 : s'.heap.get? b = some { cls := .none, data := .fields (#[] ++ more) } := hok' b _ z2
            rw [e] at hT
            cases hT
            exact .inr (.inl ⟨((PySem.W.codeHd_of_K KX hTc).tab e).isCodeTable, rfl, #[], more, rfl, e2⟩)
  cases hk : K.lookup a with
  | some o =>
    have e := KX a o hk
    rw [ha] at e
    cases e
    refine core (fun b => if b = tP then some (.tbl #[]) else none) (fun b => ?_) (if_pos rfl) (.inr ⟨_, vs.toArray, _, hk, rfl, rfl, rfl, by rw [List.size_toArray, lenV]; exact hl, by simpa using rv⟩) (fun b u z => ?_) (fun b z => ?_) fun z => absurd (if_neg aP) z
    · by_cases hb : b = tP
      · exact .inr (.inr ⟨hb, if_pos hb⟩)
      · exact .inl (if_neg hb)
    · by_cases hb : b = tP
      · have z' := (if_pos hb).symm.trans z
        cases z'
        subst hb
        exact hT
      · have z' := (if_neg hb).symm.trans z
        cases z'
    · by_cases hb : b = tP
      · exact .inr hb
      · exact absurd (if_neg hb) z
  | none =>
    refine core (fun b => if b = a then some (.frz { cls := .type "list", data := .seq vs.toArray } (.lst (ns.map V.int))) else if b = tP then some (.tbl #[]) else none) (fun b => ?_) (by rw [if_neg (Ne.symm aP), if_pos rfl]) (.inl (.inr ⟨{ cls := .type "list", data := .seq vs.toArray }, if_pos rfl⟩)) (fun b u z => ?_) (fun b z => ?_) fun _ => hk
    · by_cases hb : b = a
      · exact .inr (.inl ⟨_, _, if_pos hb⟩)
      · by_cases hb' : b = tP
        · exact .inr (.inr ⟨hb', (if_neg hb).trans (if_pos hb')⟩)
        · exact .inl ((if_neg hb).trans (if_neg hb'))
    · by_cases hb : b = a
      · have z' := (if_pos hb).symm.trans z
        cases z'
        subst hb
        exact ⟨ha, by rw [List.length_map]; exact hl, vs, _, rv, ha⟩
      · have z' := (if_neg hb).symm.trans z
        by_cases hb' : b = tP
        · have z2 := (if_pos hb').symm.trans z'
          cases z2
          subst hb'
          exact hT
        · have z2 := (if_neg hb').symm.trans z'
          cases z2
    · by_cases hb : b = a
      · exact .inl hb
      · by_cases hb' : b = tP
        · exact .inr hb'
        · exact absurd ((if_neg hb).trans (if_neg hb')) z
theorem walkT_of {l : PySem.W.OpenLaw} {n k : Nat} {q : Program} {loose : List Str} {XP : (Str → Option Value) → Heap → Prop} {YP : World → Heap → Prop} {d : DefRec} {K : Params → PySem.W.Frag} {CX : World → CXT} {sp : World → Sp} {x : Str} {tc tP : Addr}
    (hn : l.most = some n) (hn2 : n ≤ sizeLine) (hdf : d.params.defaults = []) (hr : Room k callerA)
    (hY : ∀ (w : World) (h : Heap), YP w h → (K w.params).In h ∧ h.get? tP = some (PySem.W.tabObj #[]))
    (hTK : ∀ w : World, (K w.params).lookup tP = none) (hTc : ∀ w : World, PySem.W.codeHdIn (K w.params) tc tP = true)
    (F : ∀ (w : World) (mg : Str → Option Value) (fa : Addr) (h : Heap), (K w.params).In h → h.Ns mainGlobals mg → mg d.name = some (.ref fa) →
      ∃ fd : FuncData, (∀ (s : Shared) (u : Value), BindsTo s fd ⟨[u], []⟩ [(x, u)]) ∧
        ∀ base : Heap, (K w.params).In base → base.Ns mainGlobals mg → BM mg base → FnOk l.prog w (K w.params) mg base (CX w) k fa fd [x] (sp w))
    (hsp : ∀ (w : World) (H : Hp) (a : Addr) (ns : List Int), ns.length ≤ n → H tP = some (.tbl #[]) → SqL (K w.params) H a (ns.map V.int) → sp w [.ref a] H (fun v _ => v = .bl true) fun _ _ _ => False)
    (hCX : ∀ (w : World) (H : Hp) (s : Shared) (e : Value) (s' : Shared), CX w [] H s (fun _ _ _ => False) e s' → False) :
    PySem.W.WalkO q loose XP YP l.row.toRowW d [] (fun f vs => PySem.call f vs) := by
  refine Att.attach_call hn hdf fun w s₀ s₁ mg mb fa o pm cd doc a vs ns G Y ho hd hcd hmg hobj hints hlen hg => ?_
  obtain ⟨KX, hT⟩ := hY w _ Y
  obtain ⟨fd, hb, hF⟩ := F w mg fa _ KX G.T.g hmg
  exact law_callT KX G.T.g G.T.b G.T.builtins G.T.nolimit hg G.T.bmain hT (hTK w) (hTc w) hobj hints (Nat.le_trans hlen hn2) hr hF hb (fun H hO hS => hsp w H a ns hlen hO hS) fun H e s' => hCX w H s₁ e s'
end L2
namespace K
open PySem L2 RC
theorem seq_asgC {v : V} {i : Nat} {rest : TS} {D : Ends} {σ : St} {H : Hp} (h : rest D (σ.set i (some v)) H) : tSeq (tAsg (tC v) (gName i)) rest D σ H := h
def spLast (K : PySem.W.Frag) : Sp := fun vs H Q _ => ∃ (l : Addr) (xs : List V) (ds : List Deed) (k : Nat), vs = [.ref l, .int (k : Int)] ∧ SqL K H l xs ∧ Deeds H xs ds ∧ k < ds.length ∧ ds.length ≤ 60 ∧ ∀ H', Same H H' → Q (oN (lastW (dAt ds) (dAt ds k).2.2 k)) H'
abbrev nLast : List Str := ["_law_deeds_here", "_law_place", "_law_k"]
def spFR (CR tP : Addr) : Sp := fun vs H Q _ => ∃ (p : Addr) (mn : Nat) (xs : List V) (ds : List Deed), vs = [.ref p] ∧ RowAt CR H p (mn : Int) xs ∧ Deeds H xs ds ∧ 1 ≤ mn ∧ mn ≤ 6 ∧ ds.length ≤ 60 ∧ Fault (mn : Int) ds none ∧ H tP = some (.tbl #[]) ∧
  (racesP ds = [] → ∀ H', Sb tP H H' → Q .non H') ∧ ∀ (q : Nat × Nat) (r : Addr) (H' : Hp), FirstP ds q → Sb tP H H' → H' r = some (.tup [.int (q.1 : Int), .int (q.2 : Int)]) → Q (.ref r) H'
section
variable {P : Program} {w : World} {K : PySem.W.Frag} {mg : Str → Option Value} {base : Heap}
theorem scLast : FnScope nLast ["_law_deeds_here", "_law_place"] (defScope s__law_last) := ⟨rfl, rfl, rfl, by decide +kernel, rfl, by decide +kernel, by decide +kernel⟩
theorem ok_last {f C aW aT : Addr} {fd : FuncData} (F : Fun K "_law_last" "_law_last" s__law_last f fd) (T : Txt K mg C aW aT) (zr : mg "reversed" = none) : FnOk P w K mg base CX0 1 f fd ["_law_deeds_here", "_law_place"] (spLast K) := by
  refine F.ok scLast (fun vs H Q E h => ?_) (fun cdv A outer s H vs Q E hr h => ?_)
  · obtain ⟨l, xs, ds, kk, rfl, _⟩ := h
    rfl
  · obtain ⟨l, xs, ds, kk, rfl, hl, hds, hk, hlen, k⟩ := h
    have nd := scLast.nd
    refine ⟨_, pss_cons (ps_for PassesOwn.never rfl (pi_down rfl zr (pa_cons (pe_callTy call_rng1 rfl T.rng bRng (pa_cons (pv 1) pa_nil)) pa_nil)) (pg_name (i := 2) nd rfl (Or.inl rfl))
        (pss_one (ps_if (PW.pt (pw_and (pt_cmpR op_eq (pe_ix ix_tup (pe_ix ix_list (pv 0) (pv 2) (fun _ _ => rfl)) pe_int (fun _ _ => rfl)) pe_str (nomark _))
          (pw_and1 (pt_cmpR op_eq (pe_ix ix_tup (pe_ix ix_list (pv 0) (pv 2) (fun _ _ => rfl)) pe_int (fun _ _ => rfl)) (pe_ix ix_tup (pe_ix ix_list (pv 0) (pv 1) (fun _ _ => rfl)) pe_int (fun _ _ => rfl)) (nomark _))))) (pss_one (ps_ret (pv 2))) pss_nil)))
      (pss_one (ps_ret pe_non)), ?_⟩
    refine ⟨_, rfl, _, rfl, fun rr nrr => ⟨rr, kk, rfl, upd_same, by omega, ?_⟩⟩
    have s1 := same_new (o := .rng 0 (kk : Int)) nrr
    generalize upd H rr (.rng 0 (kk : Int)) = H1 at s1
    refine for_down (hi := (kk : Int) - 1) (n := kk) (fun i σ H2 => ∃ v2 : Option V, σ = [some (.ref l), some (.int (kk : Int)), v2] ∧ H2 = H1 ∧ lastW (dAt ds) (dAt ds kk).2.2 kk = lastW (dAt ds) (dAt ds kk).2.2 (kk - i))
      ⟨none, rfl, rfl, rfl⟩ ?_ ?_
    · rintro i σ H2 hi ⟨v2, rfl, rfl, eq⟩
      obtain ⟨j, ej⟩ : ∃ j, kk - i = j + 1 := ⟨kk - i - 1, by omega⟩
      have e0 : (kk : Int) - 1 - (i : Int) = (j : Int) := by omega
      rw [e0]
      dsimp only [gName]
      have hj : j < ds.length := by omega
      obtain ⟨rj, exj, ej'⟩ := (hds.same s1).ref hj
      obtain ⟨rk, exk, ek'⟩ := (hds.same s1).ref hk
      have hl1 := s1.seq hl
      refine PuT.if1 (c := (dAt ds j).2.1 = W.write ∧ (dAt ds j).2.2 = (dAt ds kk).2.2) ((PuT.and (a := decide ((dAt ds j).2.1 = W.write)) (b := decide ((dAt ds j).2.2 = (dAt ds kk).2.2))
          (fun Qt q => ⟨_, rfl, _, rfl, l, _, _, .ref rj, rfl, rfl, hl1, atI_nat exj, rj, _, _, .str (dAt ds j).2.1, rfl, rfl, SqT.of ej', rfl, rfl, _, rfl, by rw [dec_str']; exact q⟩)
          (fun _ Qt q => ⟨_, rfl, _, rfl, l, _, _, .ref rj, rfl, rfl, hl1, atI_nat exj, rj, _, _, .int (dAt ds j).2.2, rfl, rfl, SqT.of ej', rfl, _, rfl, _, rfl, l, _, _, .ref rk, rfl, rfl, hl1, atI_nat exk, rk, _, _, .int (dAt ds kk).2.2, rfl, rfl, SqT.of ek', rfl, rfl, _, rfl, by rw [dec_int']; exact q⟩)).iff (by simp)) (fun z => ?_) (fun z => ?_)
      · refine ⟨_, rfl, ?_⟩
        have q := k H2 s1
        rw [eq, ej] at q
        unfold lastW at q
        rw [if_pos z] at q
        exact q
      · refine ⟨_, rfl, rfl, ?_⟩
        rw [eq, ej]
        show (if _ then _ else _) = _
        rw [if_neg z]
        congr 1
        omega
    · rintro σ H2 ⟨v2, rfl, rfl, eq⟩
      have q := k H2 s1
      rw [eq, Nat.sub_self] at q
      exact q
theorem scFR : FnScope ["row"] ["row"] (defScope s_first_race) := ⟨rfl, rfl, rfl, by decide +kernel, rfl, by decide +kernel, by decide +kernel⟩
theorem scLam : FnScope ["pair"] ["pair"] { kind := .function, names := [(("pair" : Str), .local)], isGenerator := false, isCoroutine := false, more := [] } := ⟨rfl, rfl, rfl, by decide +kernel, rfl, by decide +kernel, by decide +kernel⟩
theorem ok_fr {f CR fR tc tP : Addr} {fdR : FuncData} {oc kV doc pm ct : Value} {od an : Option Addr} {osl : Array (Option Value)}
    (lk : K.lookup f = some ⟨oc, od, .func (PySem.W.fnOf "first_race" "first_race" (defArgs s_first_race) (defBody s_first_race) (defScope s_first_race) .none kV doc pm an (.ref tc) ct), osl⟩) (hcd : PySem.W.codeIn K (.ref tc) "first_race" = true)
    (hT : PySem.W.codeHdIn K tc tP = true) (bm : BM mg base) (zm : mg "min" = none)
    (GR : FnOk P w K mg base CX0 4 fR fdR ["row"] (spRaces CR)) (cR : Cal K mg "races" fR fdR ["row"]) :
    FnOk P w K mg base CX0 5 f (PySem.W.fnOf "first_race" "first_race" (defArgs s_first_race) (defBody s_first_race) (defScope s_first_race) .none kV doc pm an (.ref tc) ct) ["row"] (spFR CR tP) := by
  refine fn_of lk hcd scFR (fun vs H Q E h => ?_) (fun A outer s H vs Q E hr h => ?_)
  · obtain ⟨p, mn, xs, ds, rfl, _⟩ := h
    rfl
  · obtain ⟨p, mn, xs, ds, rfl, hR, hds, m1, m6, hlen, fa, eT, k0, k1⟩ := h
    suffices hh : ∃ t, PSs (cxOf CX0 P w K mg base ["row"] "first_race" (defScope s_first_race) f (.ref tc) A outer s H E).nox (defBody s_first_race) t ∧ t { nx := fun _ H' => Q .non H', rt := Q } (start ["row"] [V.ref p]) H from let ⟨t, h, q⟩ := hh; ⟨t, h.nox, q⟩
    refine ⟨_, pss_one (ps_ret (pe_minK (k := 2) (c := tc) (P := tP) rfl hr rfl zm (pa_cons (pe_call GR hr rfl cR.mgf cR.kp cR.b .nil pass0 (pa_cons (pv 0) pa_nil)) pa_nil) rfl hT bm scLam rfl rfl (fun _ _ _ _ _ => rfl))), ?_⟩
    refine ⟨_, rfl, p, mn, xs, ds, rfl, hR, hds, m1, m6, hlen, fa, fun r vs H1 s1 nr er hP => ⟨r, vs, racesP ds, rfl, SqL.of er, hP, s1 _ _ eT, fun e H' sb => ?_, fun q r' H' hq hle sb er' => ?_⟩⟩
    · exact k0 e H' fun b o hb e => sb b o hb (s1 _ _ e)
    · exact k1 q r' H' ⟨hq, hle⟩ (fun b o hb e => sb b o hb (s1 _ _ e)) er'
end
end K
namespace K
open PySem L2 RC
abbrev pLe (q z : Nat × Nat) : Prop := q.2 < z.2 ∨ (q.2 = z.2 ∧ q.1 ≤ z.1)
def spFst (K : PySem.W.Frag) : Sp := fun vs H Q _ => ∃ (a : Addr) (xs : List V) (l : List (Nat × Nat)), vs = [.ref a] ∧ SqL K H a xs ∧ Prs H xs l ∧ xs.length ≤ 4000 ∧ (l = [] → ∀ H', Same H H' → Q .non H') ∧
  ∀ (q : Nat × Nat) (r : Addr) (H' : Hp), q ∈ l → (∀ z ∈ l, pLe q z) → Same H H' → H' r = some (.tup [.int (q.1 : Int), .int (q.2 : Int)]) → Q (.ref r) H'
abbrev nFst : List Str := ["_law_pairs", "_law_least", "_law_one", "_law_other"]
section
variable {P : Program} {w : World} {K : PySem.W.Frag} {mg : Str → Option Value} {base : Heap}
theorem scFst : FnScope nFst ["_law_pairs"] (defScope s__law_first) := ⟨rfl, rfl, rfl, by decide +kernel, rfl, by decide +kernel, by decide +kernel⟩
theorem ok_fst {f : Addr} {fd : FuncData} (F : Fun K "_law_first" "_law_first" s__law_first f fd) : FnOk P w K mg base CX0 1 f fd ["_law_pairs"] (spFst K) := by
  refine F.ok scFst (fun vs H Q E h => ?_) (fun cdv A outer s H vs Q E hr h => ?_)
  · obtain ⟨a, xs, l, rfl, _⟩ := h
    rfl
  · obtain ⟨a, xs, l, rfl, ha, hp, hz, k0, k1⟩ := h
    have nd := scFst.nd
    refine ⟨_, pss_cons (ps_set (i := 1) nd rfl (Or.inl rfl) pe_non)
      (pss_cons (ps_for PassesOwn.never rfl (pi_list (pv 0)) (pg_tup rfl (pgs_cons (pg_name (i := 2) nd rfl (Or.inl rfl)) (pgs_cons (pg_name (i := 3) nd rfl (Or.inl rfl)) pgs_nil)))
        (pss_one (ps_if (PW.pt (pw_or (pt_cmpR op_isN (pv 1) pe_non (nomark _)) (pw_or1 (pt_cmpR (op_ltT hr.units0) (pe_tup (pa_cons (pv 3) (pa_cons (pv 2) pa_nil)))
            (pe_tup (pa_cons (pe_ix ix_tup (pv 1) pe_int (fun _ _ => rfl)) (pa_cons (pe_ix ix_tup (pv 1) pe_int (fun _ _ => rfl)) pa_nil))) (nomark _)))))
          (pss_one (ps_set (i := 1) nd rfl (Or.inl rfl) (pe_tup (pa_cons (pv 2) (pa_cons (pv 3) pa_nil))))) pss_nil)))
      (pss_one (ps_ret (pv 1)))), ?_⟩
    refine seq_asgC ?_
    refine ⟨_, rfl, a, rfl, ⟨_, ha⟩, for_list (K := K) (a := a) (xs := xs) (fun i σ HC => ∃ (vL : V) (v2 v3 : Option V), σ = [some (.ref a), some vL, v2, v3] ∧ Same H HC ∧
        ((i = 0 ∧ vL = .non) ∨ ∃ (r : Addr) (q : Nat × Nat), vL = .ref r ∧ q ∈ l.take i ∧ (∀ z ∈ l.take i, pLe q z) ∧ HC r = some (.tup [.int (q.1 : Int), .int (q.2 : Int)])))
      ⟨.non, none, none, rfl, Same.refl _, .inl ⟨rfl, rfl⟩⟩ (fun i σ HC _ ⟨_, _, _, _, sC, _⟩ => sC.seq ha) ?_ ?_⟩
    · rintro i y σ HC hi ⟨vL, v2, v3, rfl, sC, hL⟩
      obtain ⟨t, q, rfl, eq, et⟩ := (hp.same sC).get hi
      have htk : l.take (i + 1) = l.take i ++ [q] := take_snoc eq
      refine ⟨t, _, rfl, SqT.of et, rfl, _, _, rfl, _, _, rfl, rfl, ?_⟩
      dsimp only [gName]
      have sto : ∀ HD, Same HC HD → (∀ z ∈ l.take i, pLe q z) → ∃ (p : Prop), True := fun _ _ _ => ⟨True, trivial⟩
      clear sto
      rcases hL with ⟨rfl, rfl⟩ | ⟨r, q0, rfl, hm, hle, er⟩
      · refine PuS.if1 (c := True) ((PuS.or (a := true) (b := true) (PuT.pus (fun Qt qt => ⟨_, rfl, rfl, _, rfl, qt⟩)) (fun z => nomatch z)).iff (by simp)) (fun HD sD _ => ?_) (fun _ _ z => (z trivial).elim)
        refine ⟨_, rfl, _, rfl, (by show 2 ≤ sizeLine; decide), fun p np => ?_⟩
        dsimp only [gName]
        refine ⟨_, _, _, rfl, sC.trans (sD.trans (same_new np)), .inr ⟨p, q, rfl, by rw [htk]; simp, fun z hz => ?_, upd_same⟩⟩
        rw [htk] at hz
        have hz' : z = q := by simpa using hz
        rw [hz']
        exact .inr ⟨rfl, Nat.le_refl _⟩
      · refine PuS.if1 (c := q.2 < q0.2 ∨ (q.2 = q0.2 ∧ q.1 < q0.1)) ((PuS.or (a := false) (b := kLt ((q.1 : Int), (q.2 : Int)) ((q0.1 : Int), (q0.2 : Int))) (PuT.pus (fun Qt qt => ⟨_, rfl, rfl, _, rfl, qt⟩))
            (fun _ HD sD Qt qt => ?_)).iff ?_) (fun HD sD z => ?_) (fun HD sD z => ?_)
        · have erD := sD _ _ er
          refine ⟨_, rfl, _, rfl, (by show 2 ≤ sizeLine; decide), fun p1 np1 => ?_⟩
          have u1 := same_new (o := .tup [.int (q.2 : Int), .int (q.1 : Int)]) np1
          have e1 : upd HD p1 (.tup [.int (q.2 : Int), .int (q.1 : Int)]) p1 = some (.tup [.int (q.2 : Int), .int (q.1 : Int)]) := upd_same
          generalize upd HD p1 (.tup [.int (q.2 : Int), .int (q.1 : Int)]) = HE at u1 e1
          refine ⟨_, rfl, r, _, 1, _, rfl, rfl, SqT.of (u1 _ _ erD), rfl, _, rfl, r, _, 0, _, rfl, rfl, SqT.of (u1 _ _ erD), rfl, (by show 2 ≤ sizeLine; decide), fun p2 np2 => ?_⟩
          have u2 := same_new (o := .tup [.int (q0.2 : Int), .int (q0.1 : Int)]) np2
          exact ⟨p1, p2, [(q.2 : Int), (q.1 : Int)], [(q0.2 : Int), (q0.1 : Int)], rfl, rfl, SqT.of (u2 _ _ e1), SqT.of upd_same, _, rfl, qt _ (u1.trans u2)⟩
        · rw [Bool.false_or, kLt_iff]
          dsimp only
          omega
        · refine ⟨_, rfl, _, rfl, (by show 2 ≤ sizeLine; decide), fun p np => ?_⟩
          dsimp only [gName]
          refine ⟨_, _, _, rfl, sC.trans (sD.trans (same_new np)), .inr ⟨p, q, rfl, by rw [htk]; simp, fun z' hz => ?_, upd_same⟩⟩
          rw [htk] at hz
          rcases List.mem_append.mp hz with h | h
          · have := hle z' h
            show q.2 < z'.2 ∨ (q.2 = z'.2 ∧ q.1 ≤ z'.1)
            unfold pLe at this
            omega
          · have hz' : z' = q := by simpa using h
            rw [hz']
            exact .inr ⟨rfl, Nat.le_refl _⟩
        · refine ⟨_, _, _, rfl, sC.trans sD, .inr ⟨r, q0, rfl, by rw [htk]; exact List.mem_append_left _ hm, fun z' hz => ?_, sD _ _ er⟩⟩
          rw [htk] at hz
          rcases List.mem_append.mp hz with h | h
          · exact hle z' h
          · have hz' : z' = q := by simpa using h
            rw [hz']
            show q0.2 < q.2 ∨ (q0.2 = q.2 ∧ q0.1 ≤ q.1)
            omega
    · rintro σ HC ⟨vL, v2, v3, rfl, sC, hL⟩
      have hln := hp.len
      rcases hL with ⟨h0, rfl⟩ | ⟨r, q0, rfl, hm, hle, er⟩
      · exact ⟨_, rfl, k0 (List.eq_nil_of_length_eq_zero (by omega)) HC sC⟩
      · rw [hln, List.take_length] at hm hle
        exact ⟨_, rfl, k1 q0 r HC hm hle sC er⟩
end
end K
namespace K
open PySem L2 RC
noncomputable abbrev nedL (ds : List Deed) (x y : Nat) : List Nat := (List.range ds.length).filter (besP ds x y)
noncomputable abbrev besO (ds : List Deed) (x y : Nat) : List Nat := besideL (besP ds x y) ds.length x y
theorem besO_eq (ds : List Deed) (x y : Nat) : besO ds x y = nedL ds x y ++ (x :: y :: (List.range ds.length).filter fun i => !besP ds x y i && (decide (i ≠ x) && decide (i ≠ y))) := by
  show besideL _ _ _ _ = _
  unfold besideL
  rw [List.append_assoc]
  rfl
theorem bes_isW {ds : List Deed} {x y : Nat} (h : pairOf x y ∈ racesP ds) : IsW (dAt ds) ds.length (besO ds x y) := by
  obtain ⟨hx, hy, ne, n1, n2⟩ := pair_lt h
  exact beside_isW (fun i => besP_or) hx hy ne n1 n2
theorem bes_nox {ds : List Deed} {x y : Nat} (h : pairOf x y ∈ racesP ds) : besP ds x y x = false := by
  obtain ⟨hx, hy, ne, n1, n2⟩ := pair_lt h
  rw [Bool.eq_false_iff]
  intro z
  rcases besP_or.mp z with q | q
  · exact Nat.lt_irrefl _ q.lt
  · exact n2 q
theorem bes_noy {ds : List Deed} {x y : Nat} (h : pairOf x y ∈ racesP ds) : besP ds x y y = false := by
  obtain ⟨hx, hy, ne, n1, n2⟩ := pair_lt h
  rw [Bool.eq_false_iff]
  intro z
  rcases besP_or.mp z with q | q
  · exact n1 q
  · exact Nat.lt_irrefl _ q.lt
theorem ned_get {ds : List Deed} {x y k : Nat} (hk : k < (nedL ds x y).length) : (besO ds x y)[k]? = some ((nedL ds x y)[k]) ∧ (besO ds x y).getD k 0 = (nedL ds x y)[k] := by
  have e : (besO ds x y)[k]? = some ((nedL ds x y)[k]) := by
    rw [besO_eq, List.getElem?_append_left hk, List.getElem?_eq_getElem hk]
  exact ⟨e, by rw [List.getD_eq_getElem?_getD, e]; rfl⟩
theorem bes_at {ds : List Deed} {x y : Nat} (px : besP ds x y x = false) : (natsB (besO ds x y))[(nedL ds x y).length]? = some (x : Int) ∧ ∀ i, i < (nedL ds x y).length → (natsB (besO ds x y))[i]? ≠ some (x : Int) := by
  refine ⟨?_, fun i hi h => ?_⟩
  · show (List.map _ (besO ds x y))[_]? = _
    rw [besO_eq, List.getElem?_map, List.getElem?_append_right (Nat.le_refl _), Nat.sub_self]
    rfl
  · have h' : ((besO ds x y).map fun i : Nat => (i : Int))[i]? = some (x : Int) := h
    rw [List.getElem?_map, (ned_get hi).1] at h'
    have h1 : (((nedL ds x y)[i] : Nat) : Int) = (x : Int) := Option.some.inj h'
    have h2 := (List.mem_filter.mp (List.getElem_mem hi)).2
    rw [show (nedL ds x y)[i] = x by omega, px] at h2
    cases h2
theorem bes_cut (ds : List Deed) (x y : Nat) : (besO ds x y).take ((nedL ds x y).length + 2) = nedL ds x y ++ [x, y] := by
  rw [besO_eq, List.take_append]
  rw [List.take_of_length_le (by omega), show (nedL ds x y).length + 2 - (nedL ds x y).length = 2 by omega]
  rfl
theorem alike_see {ds : List Deed} {x y k : Nat} (f : FirstP ds (pairOf x y)) (hk : k < (nedL ds x y).length) (hr : (dAt ds ((besO ds x y).getD k 0)).2.1 = W.read) :
    (lastW (dAt (wovD ds (besO ds x y))) (dAt ds ((besO ds x y).getD k 0)).2.2 k).map (fun a => (besO ds x y).getD a 0) = lastW (dAt ds) (dAt ds ((besO ds x y).getD k 0)).2.2 ((besO ds x y).getD k 0) := by
  have ff := f.first
  have iw := bes_isW f.mem
  have hln : (nedL ds x y).length ≤ (besO ds x y).length := by rw [besO_eq, List.length_append]; omega
  have hsort : (nedL ds x y).Pairwise (· < ·) := List.Pairwise.filter _ List.pairwise_lt_range
  have hbf : ∀ {r : Nat}, Bf (dAt ds) x r ∨ Bf (dAt ds) y r ↔ Bf (dAt ds) (pairOf x y).1 r ∨ Bf (dAt ds) (pairOf x y).2 r := by
    intro r
    unfold pairOf
    dsimp only
    rcases Nat.lt_or_ge x y with q | q
    · rw [Nat.min_eq_left (by omega), Nat.max_eq_right (by omega)]
    · rw [Nat.min_eq_right (by omega), Nat.max_eq_left (by omega)]
      exact Or.comm
  refine lastW_woven (c := (nedL ds x y).length) (g := fun a => (besO ds x y).getD a 0) hk (fun i j hij hj => ?_) (fun i hi => wovD_at (by omega)) (fun w hw hwr => ?_)
  · rw [(ned_get (show i < (nedL ds x y).length by omega)).2, (ned_get hj).2]
    exact List.pairwise_iff_getElem.mp hsort i j (by omega) hj hij
  · have hm : besP ds x y ((besO ds x y).getD k 0) = true := by
      rw [(ned_get hk).2]
      exact (List.mem_filter.mp (List.getElem_mem hk)).2
    have b1 := ff.write (r := (besO ds x y).getD k 0) (w := w) (hbf.mp (besP_or.mp hm)) hw hwr.1 hr hwr.2
    have b2 : besP ds x y w = true := besP_or.mpr ((besP_or.mp hm).imp (fun z => b1.trans z) fun z => b1.trans z)
    have hwn : w < ds.length := by
      have h1 := (List.mem_filter.mp (List.getElem_mem hk)).1
      rw [List.mem_range, ← (ned_get hk).2] at h1
      omega
    obtain ⟨i, hi, ei⟩ := List.getElem_of_mem (List.mem_filter.mpr ⟨List.mem_range.mpr hwn, b2⟩ : w ∈ nedL ds x y)
    exact ⟨i, hi, by rw [(ned_get hi).2]; exact ei⟩
noncomputable abbrev someB (ds : List Deed) (x y i : Nat) : Bool := besP ds x y i || (decide (i = x) || decide (i = y))
noncomputable abbrev someL (ds : List Deed) (x y n : Nat) : List Nat := (List.range n).filter (someB ds x y)
theorem someL_succ (ds : List Deed) (x y n : Nat) : someL ds x y (n + 1) = if someB ds x y n = true then someL ds x y n ++ [n] else someL ds x y n := by
  show (List.range (n + 1)).filter _ = _
  rw [List.range_succ, List.filter_append]
  cases h : someB ds x y n with
  | true => rw [if_pos rfl]; simp [h]
  | false => rw [if_neg (by decide)]; simp [h]
theorem some_clk {m : Int} {ds : List Deed} {x y i : Nat} (fa : Fault m ds none) (hx : x < ds.length) (hy : y < ds.length) (hi : i < ds.length) :
    (NC (dAt ds) i (dAt ds i).1 ≤ NC (dAt ds) x (dAt ds i).1 ∨ NC (dAt ds) i (dAt ds i).1 ≤ NC (dAt ds) y (dAt ds i).1) ↔ someB ds x y i = true := by
  have hN := isN_of fa
  show _ ↔ (besP ds x y i || (decide (i = x) || decide (i = y))) = true
  rw [Bool.or_eq_true, Bool.or_eq_true, decide_eq_true_iff, decide_eq_true_iff, besP_or]
  by_cases ex : i = x
  · subst ex
    exact ⟨fun _ => .inr (.inl rfl), fun _ => .inl (Nat.le_refl _)⟩
  by_cases ey : i = y
  · subst ey
    exact ⟨fun _ => .inr (.inr rfl), fun _ => .inr (Nat.le_refl _)⟩
  rw [hN.ahead hx hi ex, hN.ahead hy hi ey]
  constructor
  · intro h; exact .inl h
  · rintro (h | h | h)
    · exact h
    · exact absurd h ex
    · exact absurd h ey
theorem natsB_sorted {l : List Nat} (h : l.Pairwise (· < ·)) : (natsB l).Pairwise (· ≤ ·) := by
  show (l.map _).Pairwise _
  rw [List.pairwise_map]
  exact h.imp fun {a b} z => by omega
theorem some_sorted {ds : List Deed} {x y : Nat} (h : pairOf x y ∈ racesP ds) {ns : List Int} (hp : ns.Perm (natsB (nedL ds x y ++ [x, y]))) (hs : ns.Pairwise (· ≤ ·)) : ns = natsB (someL ds x y ds.length) := by
  obtain ⟨hx, hy, ne, n1, n2⟩ := pair_lt h
  have p2 : (natsB (someL ds x y ds.length)).Perm (natsB (nedL ds x y ++ [x, y])) := List.Perm.map _ (sorted_needed hx hy ne (bes_nox h) (bes_noy h))
  exact List.Perm.eq_of_pairwise (fun a b _ _ h1 h2 => Int.le_antisymm h1 h2) hs (natsB_sorted (List.Pairwise.filter _ List.pairwise_lt_range)) (hp.trans p2.symm)
end K
namespace K
open PySem L2 RC
def spAl (K : PySem.W.Frag) (CR : Addr) : Sp := fun vs H Q _ => ∃ (p l : Addr) (x y mn : Nat) (xs : List V) (ds : List Deed), vs = [.ref p, .ref l, .int (x : Int), .int (y : Int)] ∧ RowAt CR H p (mn : Int) xs ∧ SqL K H l xs ∧ Deeds H xs ds ∧ 1 ≤ mn ∧ mn ≤ 6 ∧ ds.length ≤ 60 ∧ Fault (mn : Int) ds none ∧ FirstP ds (pairOf x y) ∧
  ∀ H', Same H H' → Q (.bl true) H'
abbrev nAl : List Str := ["_law_row", "_law_deeds_here", "_law_one", "_law_other", "_law_order", "_law_made", "_law_looked", "_law_at", "_law_k", "_law_place", "_law_here", "_law_there", "_law_told", "_law_some", "_law_thread"]
theorem bSortedJ : bootBuiltins "sorted" = some (.builtin "sorted") := by decide +kernel
section
variable {P : Program} {w : World} {K : PySem.W.Frag} {mg : Str → Option Value} {base : Heap}
theorem scAl : FnScope nAl ["_law_row", "_law_deeds_here", "_law_one", "_law_other"] (defScope s__law_alike) := ⟨rfl, rfl, rfl, by decide +kernel, rfl, by decide +kernel, by decide +kernel⟩
theorem ok_al {f C aW aT CR fB fW fS fL fK fR : Addr} {fd fdB fdW fdS fdL fdK fdR : FuncData} (F : Fun K "_law_alike" "_law_alike" s__law_alike f fd) (T : Txt K mg C aW aT) (R : TxtR K mg CR) (zma : mg "max" = none) (zs : mg "sorted" = none)
    (GB : FnOk P w K mg base CX0 5 fB fdB ["row", "one", "other"] (spBes CR)) (cB : Cal K mg "beside" fB fdB ["row", "one", "other"])
    (GW : FnOk P w K mg base CX0 7 fW fdW ["row", "order"] (spWov K CR)) (cW : Cal K mg "woven" fW fdW ["row", "order"])
    (GS : FnOk P w K mg base CX0 2 fS fdS ["row"] (spSeen CR)) (cS : Cal K mg "seen" fS fdS ["row"])
    (GL : FnOk P w K mg base CX0 1 fL fdL ["_law_deeds_here", "_law_place"] (spLast K)) (cL : Cal K mg "_law_last" fL fdL ["_law_deeds_here", "_law_place"])
    (GK : FnOk P w K mg base CX0 2 fK fdK ["row"] (spClk CR)) (cK : Cal K mg "clocks" fK fdK ["row"])
    (GR : FnOk P w K mg base CX0 1 fR fdR ["self"] (spRDs CR)) (bR : Binds K fdR ["self"] []) (mR : Meth K CR "deeds" fR) :
    FnOk P w K mg base CX0 8 f fd ["_law_row", "_law_deeds_here", "_law_one", "_law_other"] (spAl K CR) := by
  refine F.ok scAl (fun vs H Q E h => ?_) (fun cdv A outer s H vs Q E hr h => ?_)
  · obtain ⟨p, l, x, y, mn, xs, ds, rfl, _⟩ := h
    rfl
  · obtain ⟨p, l, x, y, mn, xs, ds, rfl, hR, hl, hds, m1, m6, hlen, fa, hF, k⟩ := h
    have nd := scAl.nd
    have hu := hu64B hr
    have hr1 : Room 1 _ := hr.mono (by decide)
    have hr2 : Room 2 _ := hr.mono (by decide)
    have hr5 : Room 5 _ := hr.mono (by decide)
    refine ⟨_, pss_cons (ps_set (i := 4) nd rfl (Or.inl rfl) (pe_call GB hr5 rfl cB.mgf cB.kp cB.b .nil pass0 (pa_cons (pv 0) (pa_cons (pv 2) (pa_cons (pv 3) pa_nil)))))
      (pss_cons (ps_set (i := 5) nd rfl (Or.inl rfl) (pe_call GW hr rfl cW.mgf cW.kp cW.b .nil pass0 (pa_cons (pv 0) (pa_cons (pv 4) pa_nil))))
      (pss_cons (ps_set (i := 6) nd rfl (Or.inl rfl) (pe_call GS hr2 rfl cS.mgf cS.kp cS.b .nil pass0 (pa_cons (pv 5) pa_nil)))
      (pss_cons (ps_set (i := 7) nd rfl (Or.inl rfl) (pe_bm PySem.F.plainAttrs_list PySem.F.slot_list_index PySem.F.type_list_index mt_index (pv 4) (pa_cons (pv 2) pa_nil)))
      (pss_cons (ps_for PassesOwn.never rfl (pi_range1 rfl T.rng (pa_cons (pv 7) pa_nil)) (pg_name (i := 8) nd rfl (Or.inl rfl))
        (pss_cons (ps_set (i := 9) nd rfl (Or.inl rfl) (pe_ix ix_list (pv 4) (pv 8) (fun _ _ => rfl)))
        (pss_one (ps_if (pt_cmpR op_eq (pe_ix ix_tup (pe_ix ix_list (pv 1) (pv 9) (fun _ _ => rfl)) pe_int (fun _ _ => rfl)) pe_str (nomark _))
          (pss_cons (ps_set (i := 10) nd rfl (Or.inl rfl) (pe_call GL hr1 rfl cL.mgf cL.kp cL.b .nil pass0 (pa_cons (pe_meth0 (pv 5) R.cl mR GR hr1 bR .nil pass0) (pa_cons (pv 8) pa_nil))))
          (pss_cons (ps_set (i := 11) nd rfl (Or.inl rfl) (pe_call GL hr1 rfl cL.mgf cL.kp cL.b .nil pass0 (pa_cons (pv 1) (pa_cons (pv 9) pa_nil))))
          (pss_cons (ps_if (pt_cmpR op_notN (pv 10) pe_non (nomark _)) (pss_one (ps_set (i := 10) nd rfl (Or.inl rfl) (pe_ix ix_list (pv 4) (pv 10) (fun _ _ => rfl)))) pss_nil)
          (pss_cons (ps_if (PW.pt (pw_or (pt_cmpR op_ne (pv 10) (pv 11) (nomark _)) (pw_or1 (pt_cmpR op_ne (pe_cmpR op_isN (pe_ix ix_list (pv 6) (pv 8) (fun _ _ => rfl)) pe_non (nomark _)) (pe_cmpR op_isN (pv 11) pe_non (nomark _)) (nomark _))))) (pss_one (ps_ret pe_bl)) pss_nil)
          (pss_one (ps_if (PW.pt (pw_and (pt_cmpR op_notN (pv 11) pe_non (nomark _)) (pw_and1 (pt_cmpR op_ne (pe_ix ix_list (pv 4) (pe_ix ix_list (pv 6) (pv 8) (fun _ _ => rfl)) (fun _ _ => rfl)) (pv 11) (nomark _))))) (pss_one (ps_ret pe_bl)) pss_nil)))))) pss_nil))))
      (pss_cons (ps_set (i := 12) nd rfl (Or.inl rfl) (pe_call GK hr2 rfl cK.mgf cK.kp cK.b .nil pass0 (pa_cons (pv 0) pa_nil)))
      (pss_cons (ps_set (i := 13) nd rfl (Or.inl rfl) (pe_lst pa_nil))
      (pss_cons (ps_for PassesOwn.never rfl (pi_range1 rfl T.rng (pa_cons (pe_callB call_len_seq (by rfl) T.len PySem.boot_len (pa_cons (pv 1) pa_nil)) pa_nil)) (pg_name (i := 8) nd rfl (Or.inl rfl))
        (pss_cons (ps_set (i := 14) nd rfl (Or.inl rfl) (pe_ix ix_tup (pe_ix ix_list (pv 1) (pv 8) (fun _ _ => rfl)) pe_int (fun _ _ => rfl)))
        (pss_one (ps_if (pt_cmpR op_le (pe_ix ix_list (pe_ix ix_list (pv 12) (pv 8) (fun _ _ => rfl)) (pv 14) (fun _ _ => rfl)) (pe_callB (call_max2 rfl) (by rfl) zma boot_max (pa_cons (pe_ix ix_list (pe_ix ix_list (pv 12) (pv 2) (fun _ _ => rfl)) (pv 14) (fun _ _ => rfl)) (pa_cons (pe_ix ix_list (pe_ix ix_list (pv 12) (pv 3) (fun _ _ => rfl)) (pv 14) (fun _ _ => rfl)) pa_nil))) (nomark _))
          (pss_one (ps_expr (pe_bm PySem.F.plainAttrs_list PySem.F.slot_list_append PySem.F.type_list_append mt_append (pv 13) (pa_cons (pv 8) pa_nil)))) pss_nil))))
      (pss_one (ps_ret (pe_cmpR (op_eqD hu) (pe_callB call_sorted (by rfl) zs bSortedJ (pa_cons (pe_slice sl_list (pv 4) po_none (po_some (pe_op op_add (pv 7) pe_int))) pa_nil)) (pv 13) (nomark _))))))))))), ?_⟩
    have hpr := hF.mem
    obtain ⟨hx, hy, nxy, _, _⟩ := pair_lt hpr
    have wv := bes_isW hpr
    obtain ⟨b1, b3⟩ := bes_at (y := y) (bes_nox hpr)
    have hxl := hds.len
    have hnl : (nedL ds x y).length + 2 ≤ (besO ds x y).length := by rw [besO_eq, List.length_append, List.length_cons, List.length_cons]; omega
    have hll := wv.len
    have gget : ∀ i, i < ds.length → ((natsB (besO ds x y)).map V.int)[i]? = some (.int (((besO ds x y).getD i 0 : Nat) : Int)) := fun i hi => by
      rw [List.getElem?_map, List.getElem?_map, List.getD_eq_getElem?_getD, List.getElem?_eq_getElem (by omega)]
      rfl
    have hlm : ∀ i ∈ besO ds x y, i < ds.length := fun i hi => List.mem_range.mp (wv.perm.mem_iff.mp hi)
    have glt : ∀ i, i < ds.length → (besO ds x y).getD i 0 < ds.length := fun i hi => by
      rw [List.getD_eq_getElem?_getD, List.getElem?_eq_getElem (by omega)]
      exact hlm _ (List.getElem_mem _)
    have hwl : (wovD ds (besO ds x y)).length = ds.length := by rw [List.length_map]; exact hll
    refine ⟨_, rfl, _, rfl, _, rfl, p, x, y, mn, xs, ds, rfl, hR, hds, m1, m6, hlen, fa, hpr, fun o H1 s1 no eo => ?_⟩
    dsimp only [gName]
    refine ⟨_, rfl, _, rfl, p, o, mn, xs, ds, besO ds x y, rfl, hR.same s1, hds.same s1, m1, m6, hlen, fa, eo, wv, fun mp H2 s2 nmp rm => ?_⟩
    dsimp only [gName]
    have hd2 := wov_deeds (hds.same (s1.trans s2)) hlm
    generalize (besO ds x y).map (fun i => xs.getD i .non) = xs' at rm hd2
    refine ⟨_, rfl, mp, (mn : Int), xs', wovD ds (besO ds x y), rfl, rm, hd2, by omega, fun sk H3 s3 nsk esk => ?_⟩
    dsimp only [gName]
    rw [hwl] at esk
    have eo3 := (s2.trans s3) _ _ eo
    have rm3 := rm.same s3
    have hd3 := hd2.same s3
    have s03 := s1.trans (s2.trans s3)
    have hl3 := s03.seq hl
    have hds3 := hds.same s03
    have hR3 := hR.same s03
    clear s1 s2 s3 eo rm hd2
    refine ⟨_, rfl, .inl ⟨rfl, _, SqL.of eo3⟩, _, rfl, o, natsB (besO ds x y), (x : Int), (nedL ds x y).length, rfl, rfl, eo3, b1, b3, ?_⟩
    dsimp only [gName]
    refine ⟨_, rfl, _, rfl, by omega, by omega, for_range (lo := 0) (n := (((nedL ds x y).length : Nat) : Int).toNat) (fun i σ HC => ∃ (v8 v9 v10 v11 : Option V), σ = [some (.ref p), some (.ref l), some (.int (x : Int)), some (.int (y : Int)), some (.ref o), some (.ref mp), some (.ref sk), some (.int (((nedL ds x y).length : Nat) : Int)), v8, v9, v10, v11, none, none, none] ∧ Same H3 HC)
      ⟨none, none, none, none, rfl, Same.refl _⟩ ?_ ?_⟩
    · rintro i σ HC hi ⟨v8, v9, v10, v11, rfl, sC⟩
      have hk : i < (nedL ds x y).length := by simpa using hi
      have hin : i < ds.length := by omega
      have e0 : (0 : Int) + (i : Int) = (i : Int) := by omega
      rw [e0]
      dsimp only [gName]
      refine ⟨_, rfl, _, rfl, o, _, _, _, rfl, rfl, SqL.of (sC _ _ eo3), atI_nat (gget i hin), ?_⟩
      dsimp only [gName]
      obtain ⟨rg, exg, eg⟩ := (hds3.same sC).ref (glt i hin)
      refine PuT.if1 (c := (dAt ds ((besO ds x y).getD i 0)).2.1 = W.read) (fun Qt q => ⟨_, rfl, _, rfl, l, _, _, .ref rg, rfl, rfl, sC.seq hl3, atI_nat exg, rg, _, _, .str (dAt ds ((besO ds x y).getD i 0)).2.1, rfl, rfl, SqT.of eg, rfl, rfl, _, rfl, by rw [dec_str']; exact q⟩) (fun z => ?_) (fun z => ⟨_, _, _, _, rfl, sC⟩)
      have al := alike_see hF hk z
      have ewi : dAt (wovD ds (besO ds x y)) i = dAt ds ((besO ds x y).getD i 0) := wovD_at (by omega)
      have gi := seenV_get (D := dAt (wovD ds (besO ds x y))) hin
      unfold seenAt at gi
      rw [if_pos (by rw [ewi]; exact z), ewi] at gi
      have hlt : ∀ j, lastW (dAt (wovD ds (besO ds x y))) (dAt ds ((besO ds x y).getD i 0)).2.2 i = some j → j < ds.length := fun j e => by
        have := (lastW_some e).1
        omega
      have rmC := rm3.same sC
      obtain ⟨dx, tp, e1, e2⟩ := id rmC.ex
      refine ⟨_, rfl, mp, dx, _, rfl, e1, rflds_no _ _ _ (by decide +kernel) (by decide +kernel) (by decide +kernel), mp, (mn : Int), xs', rfl, rmC, fun ld nld => ?_⟩
      have u1 := same_new (o := .lst xs') nld
      have e3 : upd HC ld (.lst xs') ld = some (.lst xs') := upd_same
      generalize upd HC ld (.lst xs') = HD at u1 e3
      refine ⟨_, rfl, ld, xs', wovD ds (besO ds x y), i, rfl, SqL.of e3, hd3.same (sC.trans u1), by omega, by omega, fun HE u2 => ?_⟩
      dsimp only [gName]
      have sE := sC.trans (u1.trans u2)
      refine ⟨_, rfl, _, rfl, l, xs, ds, (besO ds x y).getD i 0, rfl, sE.seq hl3, hds3.same sE, glt i hin, hlen, fun HF u3 => ?_⟩
      dsimp only [gName]
      rw [ewi, ← al]
      generalize lastW (dAt (wovD ds (besO ds x y))) (dAt ds ((besO ds x y).getD i 0)).2.2 i = a at gi hlt
      have sF := sE.trans u3
      have eoF := sF _ _ eo3
      have eskF := sF _ _ esk
      clear sE u3 u2 u1 e3 e1 e2 rmC al
      cases a with
      | none =>
        refine PuT.ifs (c := False) (fun Qt q => ⟨_, rfl, rfl, _, rfl, q⟩) (fun z => z.elim) (fun _ => ?_)
        refine PuT.ifs (c := False) ((PuT.or (a := false) (b := false) (fun Qt q => ⟨_, rfl, _, rfl, rfl, _, rfl, q⟩)
          (fun _ Qt q => ⟨_, rfl, _, rfl, sk, _, _, _, rfl, rfl, SqL.of eskF, atI_nat gi, rfl, _, rfl, rfl, rfl, _, rfl, q⟩)).iff (by simp)) (fun z => z.elim) (fun _ => ?_)
        exact PuT.if1 (c := False) ((PuT.and (a := false) (b := false) (fun Qt q => ⟨_, rfl, rfl, _, rfl, q⟩) (fun z => nomatch z)).iff (by simp)) (fun z => z.elim) (fun _ => ⟨_, _, _, _, rfl, sF⟩)
      | some j =>
        have hj := hlt j rfl
        refine PuT.ifs (c := True) (fun Qt q => ⟨_, rfl, rfl, _, rfl, q⟩) (fun _ => ?_) (fun z => (z trivial).elim)
        refine ⟨_, rfl, _, rfl, o, _, _, _, rfl, rfl, SqL.of eoF, atI_nat (gget j hj), ?_⟩
        dsimp only [gName]
        refine PuT.ifs (c := False) ((PuT.or (a := false) (b := false) (fun Qt q => ⟨_, rfl, _, rfl, rfl, _, rfl, by
            rw [show (!decide (V.int (((besO ds x y).getD j 0 : Nat) : Int) = oN (Option.map (fun a => (besO ds x y).getD a 0) (some j)))) = false from by rw [show oN (Option.map (fun a => (besO ds x y).getD a 0) (some j)) = V.int (((besO ds x y).getD j 0 : Nat) : Int) from rfl, decide_eq_true rfl]; rfl]
            exact q⟩)
          (fun _ Qt q => ⟨_, rfl, _, rfl, sk, _, _, _, rfl, rfl, SqL.of eskF, atI_nat gi, rfl, _, rfl, rfl, rfl, _, rfl, q⟩)).iff (by simp)) (fun z => z.elim) (fun _ => ?_)
        refine PuT.if1 (c := False) ((PuT.and (a := true) (b := false) (fun Qt q => ⟨_, rfl, rfl, _, rfl, q⟩) (fun _ Qt q => ⟨_, rfl, _, rfl, _, rfl, sk, _, _, _, rfl, rfl, SqL.of eskF, atI_nat gi, o, _, _, _, rfl, rfl, SqL.of eoF, atI_nat (gget j hj), _, rfl, rfl, _, rfl, by
            rw [show (!decide (V.int (((besO ds x y).getD j 0 : Nat) : Int) = oN (Option.map (fun a => (besO ds x y).getD a 0) (some j)))) = false from by rw [show oN (Option.map (fun a => (besO ds x y).getD a 0) (some j)) = V.int (((besO ds x y).getD j 0 : Nat) : Int) from rfl, decide_eq_true rfl]; rfl]
            exact q⟩)).iff (by simp)) (fun z => z.elim) (fun _ => ⟨_, _, _, _, rfl, sF⟩)
    rintro σ HC ⟨v8, v9, v10, v11, rfl, sC⟩
    have hRC := hR3.same sC
    have hdsC := hds3.same sC
    have hlC := sC.seq hl3
    have eoC := sC _ _ eo3
    have sHC := s03.trans sC
    clear sC hR3 hds3 hl3 eo3 rm3 hd3 s03 esk
    refine ⟨_, rfl, p, mn, xs, ds, rfl, hRC, hdsC, m1, m6, hlen, fa, fun r ts H4 s4 nr er lts ndp ht => ?_⟩
    dsimp only [gName]
    refine ⟨Nat.zero_le _, fun sl nsl => ?_⟩
    dsimp only [gName]
    have hds4 := hdsC.same s4
    have hl4 := s4.seq hlC
    have eo4 := s4 _ _ eoC
    have sH4 := sHC.trans s4
    clear s4 sHC hRC hdsC hlC eoC
    refine ⟨_, rfl, l, _, rfl, .inl ((same_new nsl).seq hl4), _, rfl, by omega, by omega, for_range (lo := 0) (n := ((xs.length : Nat) : Int).toNat) (fun i σ HD => ∃ (u8 u14 : Option V), σ = [some (.ref p), some (.ref l), some (.int (x : Int)), some (.int (y : Int)), some (.ref o), some (.ref mp), some (.ref sk), some (.int (((nedL ds x y).length : Nat) : Int)), u8, v9, v10, v11, some (.ref r), some (.ref sl), u14] ∧ Same H4 HD ∧ HD sl = some (.lst ((natsB (someL ds x y i)).map V.int)))
      ⟨v8, none, rfl, same_new nsl, upd_same⟩ ?_ ?_⟩
    · rintro i σ HD hi ⟨u8, u14, rfl, sD, eS⟩
      have hin : i < ds.length := by
        have : i < xs.length := by simpa using hi
        omega
      have e0 : (0 : Int) + (i : Int) = (i : Int) := by omega
      rw [e0]
      dsimp only [gName]
      obtain ⟨ri, exi, ei⟩ := (hds4.same sD).ref hin
      refine ⟨_, rfl, _, rfl, l, _, _, .ref ri, rfl, rfl, sD.seq hl4, atI_nat exi, ri, _, _, .int (dAt ds i).1, rfl, rfl, SqT.of ei, rfl, ?_⟩
      dsimp only [gName]
      obtain ⟨⟨t0, tm⟩, _⟩ := form_of fa hin
      obtain ⟨tn, etn⟩ : ∃ n : Nat, (dAt ds i).1 = (n : Int) := ⟨(dAt ds i).1.toNat, by omega⟩
      have htn : tn < mn := by omega
      have ck := some_clk fa hx hy hin
      rw [etn] at ck ⊢
      have tget : ∀ j, j < ds.length → ∃ a, (ts.map V.ref)[j]? = some (.ref a) ∧ HD a = some (.lst (vecV mn (NC (dAt ds) j))) := fun j hj => by
        have hjt : j < ts.length := by omega
        refine ⟨ts[j], by rw [List.getElem?_map]; simp [hjt], sD _ _ (ht j ts[j] (by simp [hjt])).1⟩
      obtain ⟨ai, eai, eai'⟩ := tget i hin
      obtain ⟨ax, eax, eax'⟩ := tget x hx
      obtain ⟨ay, eay, eay'⟩ := tget y hy
      have erD := sD _ _ er
      refine PuT.if1 (c := someB ds x y i = true) (fun Qt q => ⟨_, rfl, _, rfl, r, _, _, .ref ai, rfl, rfl, SqL.of erD, atI_nat eai, _, rfl, ai, _, _, _, rfl, rfl, SqL.of eai', atI_nat (vecV_get htn),
          _, rfl, _, rfl, r, _, _, .ref ax, rfl, rfl, SqL.of erD, atI_nat eax, _, rfl, ax, _, _, _, rfl, rfl, SqL.of eax', atI_nat (vecV_get htn),
          _, rfl, _, rfl, r, _, _, .ref ay, rfl, rfl, SqL.of erD, atI_nat eay, _, rfl, ay, _, _, _, rfl, rfl, SqL.of eay', atI_nat (vecV_get htn), _, _, rfl, _, _, rfl, rfl, _, rfl, ?tst⟩) (fun z => ?_) (fun z => ?_)
      case tst =>
        have ed : decide (((NC (dAt ds) i (tn : Int) : Nat) : Int) ≤ if ((NC (dAt ds) y (tn : Int) : Nat) : Int) > ((NC (dAt ds) x (tn : Int) : Nat) : Int) then ((NC (dAt ds) y (tn : Int) : Nat) : Int) else ((NC (dAt ds) x (tn : Int) : Nat) : Int)) = decide (someB ds x y i = true) := by
          rw [decide_eq_decide, ← ck]
          split <;> omega
        rw [ed]
        exact q
      · refine ⟨_, rfl, .inl ⟨rfl, _, SqL.of eS⟩, _, rfl, sl, _, _, rfl, rfl, eS, ?_, ?_⟩
        · rw [List.length_map, List.length_map]
          have h1 : (someL ds x y i).length ≤ i := by
            have := List.length_filter_le (someB ds x y) (List.range i)
            rwa [List.length_range] at this
          exact small1000 (by omega)
        · refine ⟨_, _, rfl, sD.put2 nsl, ?_⟩
          rw [upd_same, someL_succ, if_pos z]
          show some (HO.lst _) = some (HO.lst (((someL ds x y i ++ [i]).map fun i : Nat => (i : Int)).map V.int))
          rw [List.map_append, List.map_append]
          rfl
      · refine ⟨_, _, rfl, sD, ?_⟩
        rw [someL_succ, if_neg z]
        exact eS
    rintro σ HD ⟨u8, u14, rfl, sD, eS⟩
    have hn : ((xs.length : Nat) : Int).toNat = ds.length := by rw [hxl]; rfl
    rw [hn] at eS
    refine ⟨_, rfl, _, rfl, _, _, rfl, rfl, (((nedL ds x y).length : Nat) : Int) + 2, rfl, o, _, rfl, SqL.of (sD _ _ eo4), fun q1 nq1 => ?_⟩
    rw [show (((nedL ds x y).length : Nat) : Int) + 2 = (((nedL ds x y).length + 2 : Nat) : Int) by omega, cutV_take, ← List.map_take, ← List.map_take, bes_cut]
    have t1 := same_new (o := .lst ((natsB (nedL ds x y ++ [x, y])).map V.int)) nq1
    have e1 : upd HD q1 (.lst ((natsB (nedL ds x y ++ [x, y])).map V.int)) q1 = some (.lst ((natsB (nedL ds x y ++ [x, y])).map V.int)) := upd_same
    generalize upd HD q1 (.lst ((natsB (nedL ds x y ++ [x, y])).map V.int)) = HE at t1 e1
    refine ⟨q1, natsB (nedL ds x y ++ [x, y]), rfl, SqL.of e1, ?_, fun q2 ns' hp hs nq2 => ?_⟩
    · rw [List.length_map, List.length_append]
      show _ + 2 < 64
      omega
    rw [some_sorted hpr hp hs]
    have t2 := same_new (o := .lst ((natsB (someL ds x y ds.length)).map V.int)) nq2
    refine ⟨_, rfl, _, _, .lst (SqL.of upd_same) (datas_ints _), .lst (SqL.of ((t1.trans t2) _ _ eS)) (datas_ints _), shaped_ints _, shaped_ints _, ?_⟩
    show Q (V.bl (PyData.eqv _ _)) _
    rw [eqv_ints, decide_eq_true rfl]
    exact k _ (sH4.trans (sD.trans (t1.trans t2)))
end
end K
namespace K
open PySem L2 RC
abbrev nLaw : List Str := ["_law_script", "_law_first_here", "_law_many", "_law_base", "_law_deeds_here", "_law_row", "_law_found", "_law_want"]
def spLawT (tP : Addr) (K : PySem.W.Frag) : Sp := fun vs H Q _ => ∃ (a : Addr) (ns : List Int), vs = [.ref a] ∧ SqL K H a (ns.map V.int) ∧ ns.length ≤ 63 ∧ H tP = some (.tbl #[]) ∧ ∀ H', Q (.bl true) H'
def rIsT (K : PySem.W.Frag) : List V → Hp → VK → Prop := fun xs H Q => ∃ a ys, xs = [.ref a, .ty "tuple"] ∧ SqT K H a ys ∧ Q (.bl true) H
theorem call_isiT {X : Cx} : CallR X (.builtin "isinstance") (rIsT X.K) := by
  intro pins s σ H xs us Q I r h
  obtain ⟨a, ys, rfl, ha, q⟩ := h
  obtain ⟨u, w', rfl, rx, rt⟩ := vals2 r
  cases rt
  cases (show u = Value.ref a from rx)
  obtain ⟨its, _, p, _⟩ := I.tuple ha
  obtain ⟨o, h1, h2, _⟩ := id p
  exact PySem.W.kia_one PySem.W.kitx_tuple I.kIn ⟨o, h1, h2⟩ (show PySem.W.kitOne X.K (.type "tuple") (.type "tuple") = some true from rfl) (fun z => nomatch z) fun tk => ⟨.bl true, H, I.tok _, rfl, q⟩
def hidP (tP : Addr) (H : Hp) : Hp := fun b => if b = tP then none else H b
theorem sb_hid {tP : Addr} {H H' : Hp} (s : Sb tP H H') : Same (hidP tP H) H' := fun b o e => by
  unfold hidP at e
  split at e
  · cases e
  · next z => exact s b o z e
theorem hid_get {tP b : Addr} {H : Hp} {o : HO} (hT : H tP = some (.tbl #[])) (ne : o ≠ .tbl #[]) (e : H b = some o) : hidP tP H b = some o := by
  unfold hidP
  rw [if_neg (ne_of e hT ne)]
  exact e
theorem hid_row {CR tP p : Addr} {H : Hp} {m : Int} {xs : List V} (hT : H tP = some (.tbl #[])) (h : RowAt CR H p m xs) : RowAt CR (hidP tP H) p m xs := by
  obtain ⟨dx, t, e1, e2⟩ := h.ex
  exact ⟨dx, t, hid_get hT (fun z => nomatch z) e1, hid_get hT (fun z => nomatch z) e2⟩
theorem hid_deeds {tP : Addr} {H : Hp} {xs : List V} {ds : List Deed} (hT : H tP = some (.tbl #[])) (h : Deeds H xs ds) : Deeds (hidP tP H) xs ds := by
  refine ⟨fun v hv => ?_, ?_⟩
  · obtain ⟨r, t, w, x, rfl, e⟩ := h.all v hv
    exact ⟨r, t, w, x, rfl, hid_get hT (fun z => nomatch z) e⟩
  · rw [← h.eq]
    refine List.map_congr_left fun v hv => ?_
    obtain ⟨r, t, w, x, rfl, e⟩ := h.all v hv
    rw [deedOf_ref e, deedOf_ref (hid_get hT (fun z => nomatch z) e)]
theorem pair_self {ds : List Deed} {q : Nat × Nat} (h : q ∈ racesP ds) : pairOf q.1 q.2 = q ∧ pairOf q.2 q.1 = q := by
  have h2 := (mem_allP.mp h).2.1
  unfold pairOf
  rw [Nat.min_eq_left (by omega), Nat.max_eq_right (by omega), Nat.min_eq_right (by omega), Nat.max_eq_left (by omega)]
  exact ⟨rfl, rfl⟩
section
variable {P : Program} {w : World} {K : PySem.W.Frag} {mg : Str → Option Value} {base : Heap}
theorem scLaw : FnScope nLaw ["_law_script"] (defScope sLaw) := ⟨rfl, rfl, rfl, by decide +kernel, rfl, by decide +kernel, by decide +kernel⟩
theorem ok_law {f C aW aT CR fC fD fI fR fF fS fA tP : Addr} {fd fdC fdD fdI fdR fdF fdS fdA : FuncData} (F : Fun K "law" "law" sLaw f fd) (T : Txt K mg C aW aT) (R : TxtR K mg CR)
    (GC : FnOk P w K mg base CX0 1 fC fdC ["_law_script", "_law_k"] (spCell K)) (cC : Cal K mg "_law_cell_at" fC fdC ["_law_script", "_law_k"])
    (GD : FnOk P w K mg base CX0 2 fD fdD ["_law_cells", "_law_many", "_law_base"] (spDeeds K)) (cD : Cal K mg "_law_deeds" fD fdD ["_law_cells", "_law_many", "_law_base"])
    (GI : FnOk P w K mg base CX0 5 fI fdI ["self", "many", "deeds"] (spRow K CR)) (bI : Binds K fdI ["self", "many", "deeds"] []) (M : Mk K CR fI)
    (GR : FnOk P w K mg base CX0 4 fR fdR ["row"] (spRaces CR)) (cR : Cal K mg "races" fR fdR ["row"])
    (GF : FnOk P w K mg base CX0 5 fF fdF ["row"] (spFR CR tP)) (cF : Cal K mg "first_race" fF fdF ["row"])
    (GS : FnOk P w K mg base CX0 1 fS fdS ["_law_pairs"] (spFst K)) (cS : Cal K mg "_law_first" fS fdS ["_law_pairs"])
    (GA : FnOk P w K mg base CX0 8 fA fdA ["_law_row", "_law_deeds_here", "_law_one", "_law_other"] (spAl K CR)) (cA : Cal K mg "_law_alike" fA fdA ["_law_row", "_law_deeds_here", "_law_one", "_law_other"]) :
    FnOk P w K mg base CX0 9 f fd ["_law_script"] (spLawT tP K) := by
  refine F.ok scLaw (fun vs H Q E h => ?_) (fun cdv A outer s H vs Q E hr h => ?_)
  · obtain ⟨a, ns, rfl, _⟩ := h
    rfl
  · obtain ⟨a, ns, rfl, hS, hlen, hT, k⟩ := h
    have nd := scLaw.nd
    have hu := hu64B hr
    have hr1 : Room 1 _ := hr.mono (by decide)
    have hr2 : Room 2 _ := hr.mono (by decide)
    have hr4 : Room 4 _ := hr.mono (by decide)
    have hr5 : Room 5 _ := hr.mono (by decide)
    have hr6 : Room 6 _ := hr.mono (by decide)
    have hr8 : Room 8 _ := hr.mono (by decide)
    refine ⟨_, pss_cons (ps_set (i := 1) nd rfl (Or.inl rfl) (pe_call GC hr1 rfl cC.mgf cC.kp cC.b .nil pass0 (pa_cons (pv 0) (pa_cons pe_int pa_nil))))
      (pss_cons (ps_set (i := 2) nd rfl (Or.inl rfl) (pe_op op_add pe_int (pe_op op_mod (pv 1) pe_int)))
      (pss_cons (ps_set (i := 3) nd rfl (Or.inl rfl) (pe_ix ix_list (pe_lst (pa_cons pe_int (pa_cons (pe_op op_mod (pe_call GC hr1 rfl cC.mgf cC.kp cC.b .nil pass0 (pa_cons (pv 0) (pa_cons pe_int pa_nil))) (pe_op op_pow pe_int pe_int)) pa_nil))) (pe_op op_mod (pe_op op_fdiv (pv 1) pe_int) pe_int) (fun _ _ => rfl)))
      (pss_cons (ps_set (i := 4) nd rfl (Or.inl rfl) (pe_call GD hr2 rfl cD.mgf cD.kp cD.b .nil pass0 (pa_cons (pe_slice sl_list (pv 0) (po_some pe_int) (po_some pe_int)) (pa_cons (pv 2) (pa_cons (pv 3) pa_nil)))))
      (pss_cons (ps_set (i := 5) nd rfl (Or.inl rfl) (pe_make M GI hr6 rfl R.mgR bI .nil pass0 (pa_cons (pv 2) (pa_cons (pe_callTy call_list_of rfl T.lst bList (pa_cons (pv 4) pa_nil)) pa_nil))))
      (pss_cons (ps_set (i := 6) nd rfl (Or.inl rfl) (pe_call GF hr5 rfl cF.mgf cF.kp cF.b .nil pass0 (pa_cons (pv 5) pa_nil)))
      (pss_cons (ps_set (i := 7) nd rfl (Or.inl rfl) (pe_call GS hr1 rfl cS.mgf cS.kp cS.b .nil pass0 (pa_cons (pe_call GR hr4 rfl cR.mgf cR.kp cR.b .nil pass0 (pa_cons (pv 5) pa_nil)) pa_nil)))
      (pss_cons (ps_if (pt_cmpR op_isN (pv 7) pe_non (nomark _)) (pss_one (ps_ret (pe_cmpR op_isN (pv 6) pe_non (nomark _)))) pss_nil)
      (pss_cons (ps_if (PW.pt (pw_or (pt_not (pt_val (pe_callB call_isiT (by rfl) T.isi bIsi (pa_cons (pv 6) (pa_cons (pe_bltn rfl T.tup bTuple (v := .ty "tuple") rfl) pa_nil)))))
          (pw_or1 (pt_cmpR (op_neD hu) (pv 6) (pv 7) (nomark _))))) (pss_one (ps_ret pe_bl)) pss_nil)
      (pss_one (ps_ret (pe_and (pe_call GA hr8 rfl cA.mgf cA.kp cA.b .nil pass0 (pa_cons (pv 5) (pa_cons (pv 4) (pa_cons (pe_ix ix_tup (pv 7) pe_int (fun _ _ => rfl)) (pa_cons (pe_ix ix_tup (pv 7) pe_int (fun _ _ => rfl)) pa_nil)))))
          (pe_one (pe_call GA hr8 rfl cA.mgf cA.kp cA.b .nil pass0 (pa_cons (pv 5) (pa_cons (pv 4) (pa_cons (pe_ix ix_tup (pv 7) pe_int (fun _ _ => rfl)) (pa_cons (pe_ix ix_tup (pv 7) pe_int (fun _ _ => rfl)) pa_nil))))))))))))))))), ?_⟩
    refine ⟨_, rfl, a, 0, ns, rfl, hS, by decide, ?_⟩
    dsimp only [gName]
    generalize ns.getD (0 : Int).toNat 0 = first
    refine ⟨_, rfl, _, _, rfl, rfl, (by show (0 : Int) < 6; decide), _, _, rfl, rfl, ?_⟩
    dsimp only [gName]
    obtain ⟨mn, emn, m1, m6⟩ : ∃ mn : Nat, 1 + first % 6 = (mn : Int) ∧ 1 ≤ mn ∧ mn ≤ 6 := ⟨(1 + first % 6).toNat, by omega, by omega, by omega⟩
    rw [emn]
    refine ⟨_, rfl, a, 1, ns, rfl, hS, by decide, _, _, rfl, rfl, ⟨by decide, by decide, by decide⟩, _, _, rfl, rfl, (by show (0 : Int) < 10 ^ (58 : Int).toNat; decide), (by show 2 ≤ sizeLine; decide), fun a2 na2 => ?_⟩
    have c58 : 0 ≤ (ns.getD (1 : Int).toNat 0) % (10 ^ (58 : Int).toNat) := Int.emod_nonneg _ (by decide)
    dsimp only
    generalize (ns.getD (1 : Int).toNat 0) % (10 ^ (58 : Int).toNat) = cb at c58
    obtain ⟨b, b0, eb⟩ : ∃ b : Int, 0 ≤ b ∧ atI [V.int 0, V.int cb] (first / 6 % 2) = some (.int b) := by
      have : first / 6 % 2 = 0 ∨ first / 6 % 2 = 1 := by omega
      rcases this with e | e
      · exact ⟨0, by decide, by rw [e]; rfl⟩
      · exact ⟨cb, c58, by rw [e]; rfl⟩
    refine ⟨_, rfl, _, _, rfl, rfl, ⟨by decide, by decide⟩, _, _, rfl, rfl, (by show (0 : Int) < 2; decide), a2, _, _, .int b, rfl, rfl, SqL.of upd_same, eb, ?_⟩
    dsimp only [gName]
    have s2 : Same H (upd H a2 (.lst [V.int 0, V.int cb])) := same_new na2
    generalize upd H a2 (.lst [V.int 0, V.int cb]) = H2 at s2
    refine ⟨_, rfl, 2, rfl, 62, rfl, a, _, rfl, s2.seq hS, fun a3 na3 => ?_⟩
    obtain ⟨ms, ems, lms⟩ := cut_upto ns 2 62 (by decide)
    rw [show cutV (ns.map V.int) (some 2) (some 62) = ms.map V.int from ems]
    have s3 : Same H2 (upd H2 a3 (.lst (ms.map V.int))) := same_new na3
    have e3 : upd H2 a3 (.lst (ms.map V.int)) a3 = some (.lst (ms.map V.int)) := upd_same
    generalize upd H2 a3 (.lst (ms.map V.int)) = H3 at s3 e3
    refine ⟨_, rfl, _, rfl, a3, (mn : Int), b, ms, rfl, SqL.of e3, by omega, by omega, b0, fun l xs ds H4 s4 nl el hd hdl fa => ?_⟩
    dsimp only [gName]
    have dlen : xs.length = ds.length := hd.len
    have hl60 : ds.length ≤ 60 := by omega
    refine ⟨_, rfl, _, rfl, l, xs, rfl, .inl (SqL.of el), fun a6 na6 => ?_⟩
    have s6 : Same H4 (upd H4 a6 (.lst xs)) := same_new na6
    have e6 : upd H4 a6 (.lst xs) a6 = some (.lst xs) := upd_same
    generalize upd H4 a6 (.lst xs) = H6 at s6 e6
    refine fun p dx0 np ndx0 _ => row_made np ndx0 (SqL.of e6) (hd.same s6) (by omega) (by omega) hl60 fa fun H7 s7 rp => ⟨rfl, ?_⟩
    dsimp only [gName]
    have s47 := s6.trans s7
    have hT7 := (s2.trans (s3.trans (s4.trans s47))) _ _ hT
    have hd7 := hd.same s47
    have el7 := s47 _ _ el
    have rp8 := hid_row hT7 rp
    have hd8 := hid_deeds hT7 hd7
    have el8 : hidP tP H7 l = some (.lst xs) := hid_get hT7 (fun z => nomatch z) el7
    refine ⟨_, rfl, p, mn, xs, ds, rfl, rp, hd7, m1, m6, hl60, fa, hT7, fun e0 H8 sb => ?_, fun q r H8 fq sb er => ?_⟩
    · dsimp only [gName]
      have s8 := sb_hid sb
      refine ⟨_, rfl, p, mn, xs, ds, rfl, rp8.same s8, hd8.same s8, m1, m6, hl60, fa, fun pr ps H9 s9 npr epr PP => ⟨pr, ps, racesP ds, rfl, SqL.of epr, PP, prs_len PP hl60, fun _ H10 s10 => ?_, fun q r' H10 hq _ _ _ => ?_⟩⟩
      · dsimp only [gName]
        exact PuT.ifs (c := True) (fun Qt q => ⟨_, rfl, rfl, _, rfl, q⟩) (fun _ => ⟨_, rfl, rfl, k _⟩) (fun z => (z trivial).elim)
      · rw [e0] at hq
        cases hq
    · dsimp only [gName]
      have s8 := sb_hid sb
      refine ⟨_, rfl, p, mn, xs, ds, rfl, rp8.same s8, hd8.same s8, m1, m6, hl60, fa, fun pr ps H9 s9 npr epr PP => ⟨pr, ps, racesP ds, rfl, SqL.of epr, PP, prs_len PP hl60, fun e0 H10 s10 => ?_, fun q' r' H10 hq hle s10 er' => ?_⟩⟩
      · have := fq.mem
        rw [e0] at this
        cases this
      · dsimp only [gName]
        have eq : q = q' := fq.inj ⟨hq, hle⟩
        subst eq
        have s0 := s8.trans (s9.trans s10)
        have erA := (s9.trans s10) _ _ er
        obtain ⟨p1, p2⟩ := pair_self fq.mem
        refine PuT.ifs (c := False) (fun Qt q => ⟨_, rfl, rfl, _, rfl, q⟩) (fun z => z.elim) (fun _ => ?_)
        refine PuT.ifs (c := False) ((PuT.or (a := false) (b := false) (PuT.not (a := true) (fun Qt qt => ⟨_, rfl, r, _, rfl, SqT.of erA, _, rfl, qt⟩))
          (fun _ Qt qt => ⟨_, rfl, _, rfl, _, _, dat_pair erA, dat_pair er', shaped_pair _, shaped_pair _, _, rfl, by rw [if_pos rfl, eqv_pair, decide_eq_true rfl]; exact qt⟩)).iff (by simp)) (fun z => z.elim) (fun _ => ?_)
        refine ⟨_, rfl, _, rfl, _, rfl, r', _, 0, _, rfl, rfl, SqT.of er', rfl, _, rfl, r', _, 1, _, rfl, rfl, SqT.of er', rfl, p, l, q.1, q.2, mn, xs, ds, rfl, rp8.same s0, SqL.of (s0 _ _ el8), hd8.same s0, m1, m6, hl60, fa, by rw [p1]; exact fq, fun HA sA => ⟨true, rfl, ?_⟩⟩
        have sB := s0.trans sA
        have erB := sA _ _ er'
        exact ⟨_, rfl, _, rfl, _, rfl, r', _, 1, _, rfl, rfl, SqT.of erB, rfl, _, rfl, r', _, 0, _, rfl, rfl, SqT.of erB, rfl, p, l, q.2, q.1, mn, xs, ds, rfl, rp8.same sB, SqL.of (sB _ _ el8), hd8.same sB, m1, m6, hl60, fa, by rw [p2]; exact fq, fun HC sC => k _⟩
end
end K
namespace L2
open PySem
section
variable {K : PySem.W.Frag} {x qual : Str} {st : Stmt} {f : Addr} {fd : FuncData}
theorem Fun.b1 {p0 : Str} (F : Fun K x qual st f fd) (h : ∀ (kV doc pm : Value) (an : Option Addr) (cdv ct : Value) (u0 : Value), bindArgs (PySem.W.fnOf x qual (defArgs st) (defBody st) (defScope st) .none kV doc pm an cdv ct) ⟨[u0], []⟩ = pure ([p0].zip [u0])) : Binds K fd [p0] [] :=
  F.binds fun kV doc pm an cdv ct us hl => match us, hl with | [u0], _ => h kV doc pm an cdv ct u0
theorem Fun.b2 {p0 p1 : Str} (F : Fun K x qual st f fd) (h : ∀ (kV doc pm : Value) (an : Option Addr) (cdv ct : Value) (u0 u1 : Value), bindArgs (PySem.W.fnOf x qual (defArgs st) (defBody st) (defScope st) .none kV doc pm an cdv ct) ⟨[u0, u1], []⟩ = pure ([p0, p1].zip [u0, u1])) : Binds K fd [p0, p1] [] :=
  F.binds fun kV doc pm an cdv ct us hl => match us, hl with | [u0, u1], _ => h kV doc pm an cdv ct u0 u1
theorem Fun.b3 {p0 p1 p2 : Str} (F : Fun K x qual st f fd) (h : ∀ (kV doc pm : Value) (an : Option Addr) (cdv ct : Value) (u0 u1 u2 : Value), bindArgs (PySem.W.fnOf x qual (defArgs st) (defBody st) (defScope st) .none kV doc pm an cdv ct) ⟨[u0, u1, u2], []⟩ = pure ([p0, p1, p2].zip [u0, u1, u2])) : Binds K fd [p0, p1, p2] [] :=
  F.binds fun kV doc pm an cdv ct us hl => match us, hl with | [u0, u1, u2], _ => h kV doc pm an cdv ct u0 u1 u2
theorem Fun.b4 {p0 p1 p2 p3 : Str} (F : Fun K x qual st f fd) (h : ∀ (kV doc pm : Value) (an : Option Addr) (cdv ct : Value) (u0 u1 u2 u3 : Value), bindArgs (PySem.W.fnOf x qual (defArgs st) (defBody st) (defScope st) .none kV doc pm an cdv ct) ⟨[u0, u1, u2, u3], []⟩ = pure ([p0, p1, p2, p3].zip [u0, u1, u2, u3])) : Binds K fd [p0, p1, p2, p3] [] :=
  F.binds fun kV doc pm an cdv ct us hl => match us, hl with | [u0, u1, u2, u3], _ => h kV doc pm an cdv ct u0 u1 u2 u3
theorem Fun.b5 {p0 p1 p2 p3 p4 : Str} (F : Fun K x qual st f fd) (h : ∀ (kV doc pm : Value) (an : Option Addr) (cdv ct : Value) (u0 u1 u2 u3 u4 : Value), bindArgs (PySem.W.fnOf x qual (defArgs st) (defBody st) (defScope st) .none kV doc pm an cdv ct) ⟨[u0, u1, u2, u3, u4], []⟩ = pure ([p0, p1, p2, p3, p4].zip [u0, u1, u2, u3, u4])) : Binds K fd [p0, p1, p2, p3, p4] [] :=
  F.binds fun kV doc pm an cdv ct us hl => match us, hl with | [u0, u1, u2, u3, u4], _ => h kV doc pm an cdv ct u0 u1 u2 u3 u4
end
end L2
namespace K
open PySem L2 RC
theorem all_mk {l : PySem.W.OpenLaw} {w : World} {K : PySem.W.Frag} {h : Heap} {mg : Str → Option Value} {fa : Addr} (X : K.In h) (G : h.Ns mainGlobals mg) (hfa : mg "law" = some (.ref fa))
    {od_aW od_aT od_aN : Option Addr} {nn_aW nn_aT nn_aN : Nat} {sl_aW sl_aT sl_aN : Array (Option Value)} {t_aW0 t_aW1 t_aW2 t_aW3 t_aW4 t_aW5 t_aT0 t_aT1 t_aN0 t_aN1 : Tok} {aW aT aN : Addr} {ti_MOST_THREADS ti_MOST_DEEDS : Tok} {tc tP : Addr} {od_m_C_init an_m_C_init od_m_C_fault_of_thread an_m_C_fault_of_thread od_m_C_fault_of_word an_m_C_fault_of_word od_m_C_follow an_m_C_follow od_m_CR_init an_m_CR_init od_m_CR_deed an_m_CR_deed od_m_CR_deeds an_m_CR_deeds od_g_joined an_g_joined od_g_clocks an_g_clocks od_g_reaches an_g_reaches od_g_fault_of_form an_g_fault_of_form od_g_fault_of_deed an_g_fault_of_deed od_g_fault an_g_fault od_g_touches an_g_touches od_g_at_odds an_g_at_odds od_g_pairs_at_odds an_g_pairs_at_odds od_g_races an_g_races od_g_beside an_g_beside od_g_seen an_g_seen od_g_first_race an_g_first_race od_g_is_weaving an_g_is_weaving od_g_woven an_g_woven od_g_law_cell_at an_g_law_cell_at od_g_law_numbers an_g_law_numbers od_g_law_by_lock an_g_law_by_lock od_g_law_deeds an_g_law_deeds od_g_law_last an_g_law_last od_g_law_first an_g_law_first od_g_law_alike an_g_law_alike od_g_law an_g_law : Option Addr} {sl_m_C_init sl_m_C_fault_of_thread sl_m_C_fault_of_word sl_m_C_follow sl_m_CR_init sl_m_CR_deed sl_m_CR_deeds sl_g_joined sl_g_clocks sl_g_reaches sl_g_fault_of_form sl_g_fault_of_deed sl_g_fault sl_g_touches sl_g_at_odds sl_g_pairs_at_odds sl_g_races sl_g_beside sl_g_seen sl_g_first_race sl_g_is_weaving sl_g_woven sl_g_law_cell_at sl_g_law_numbers sl_g_law_by_lock sl_g_law_deeds sl_g_law_last sl_g_law_first sl_g_law_alike sl_g_law : Array (Option Value)} {oc_m_C_init kV_m_C_init dc_m_C_init pm_m_C_init cd_m_C_init ct_m_C_init oc_m_C_fault_of_thread kV_m_C_fault_of_thread dc_m_C_fault_of_thread pm_m_C_fault_of_thread cd_m_C_fault_of_thread ct_m_C_fault_of_thread oc_m_C_fault_of_word kV_m_C_fault_of_word dc_m_C_fault_of_word pm_m_C_fault_of_word cd_m_C_fault_of_word ct_m_C_fault_of_word oc_m_C_follow kV_m_C_follow dc_m_C_follow pm_m_C_follow cd_m_C_follow ct_m_C_follow oc_m_CR_init kV_m_CR_init dc_m_CR_init pm_m_CR_init cd_m_CR_init ct_m_CR_init oc_m_CR_deed kV_m_CR_deed dc_m_CR_deed pm_m_CR_deed cd_m_CR_deed ct_m_CR_deed oc_m_CR_deeds kV_m_CR_deeds dc_m_CR_deeds pm_m_CR_deeds cd_m_CR_deeds ct_m_CR_deeds oc_g_joined kV_g_joined dc_g_joined pm_g_joined cd_g_joined ct_g_joined oc_g_clocks kV_g_clocks dc_g_clocks pm_g_clocks cd_g_clocks ct_g_clocks oc_g_reaches kV_g_reaches dc_g_reaches pm_g_reaches cd_g_reaches ct_g_reaches oc_g_fault_of_form kV_g_fault_of_form dc_g_fault_of_form pm_g_fault_of_form cd_g_fault_of_form ct_g_fault_of_form oc_g_fault_of_deed kV_g_fault_of_deed dc_g_fault_of_deed pm_g_fault_of_deed cd_g_fault_of_deed ct_g_fault_of_deed oc_g_fault kV_g_fault dc_g_fault pm_g_fault cd_g_fault ct_g_fault oc_g_touches kV_g_touches dc_g_touches pm_g_touches cd_g_touches ct_g_touches oc_g_at_odds kV_g_at_odds dc_g_at_odds pm_g_at_odds cd_g_at_odds ct_g_at_odds oc_g_pairs_at_odds kV_g_pairs_at_odds dc_g_pairs_at_odds pm_g_pairs_at_odds cd_g_pairs_at_odds ct_g_pairs_at_odds oc_g_races kV_g_races dc_g_races pm_g_races cd_g_races ct_g_races oc_g_beside kV_g_beside dc_g_beside pm_g_beside cd_g_beside ct_g_beside oc_g_seen kV_g_seen dc_g_seen pm_g_seen cd_g_seen ct_g_seen oc_g_first_race kV_g_first_race dc_g_first_race pm_g_first_race cd_g_first_race ct_g_first_race oc_g_is_weaving kV_g_is_weaving dc_g_is_weaving pm_g_is_weaving cd_g_is_weaving ct_g_is_weaving oc_g_woven kV_g_woven dc_g_woven pm_g_woven cd_g_woven ct_g_woven oc_g_law_cell_at kV_g_law_cell_at dc_g_law_cell_at pm_g_law_cell_at cd_g_law_cell_at ct_g_law_cell_at oc_g_law_numbers kV_g_law_numbers dc_g_law_numbers pm_g_law_numbers cd_g_law_numbers ct_g_law_numbers oc_g_law_by_lock kV_g_law_by_lock dc_g_law_by_lock pm_g_law_by_lock cd_g_law_by_lock ct_g_law_by_lock oc_g_law_deeds kV_g_law_deeds dc_g_law_deeds pm_g_law_deeds cd_g_law_deeds ct_g_law_deeds oc_g_law_last kV_g_law_last dc_g_law_last pm_g_law_last cd_g_law_last ct_g_law_last oc_g_law_first kV_g_law_first dc_g_law_first pm_g_law_first cd_g_law_first ct_g_law_first oc_g_law_alike kV_g_law_alike dc_g_law_alike pm_g_law_alike cd_g_law_alike ct_g_law_alike oc_g_law kV_g_law dc_g_law pm_g_law cd_g_law ct_g_law : Value} {C CR f_m_C_init f_m_C_fault_of_thread f_m_C_fault_of_word f_m_C_follow f_m_CR_init f_m_CR_deed f_m_CR_deeds f_g_joined f_g_clocks f_g_reaches f_g_fault_of_form f_g_fault_of_deed f_g_fault f_g_touches f_g_at_odds f_g_pairs_at_odds f_g_races f_g_beside f_g_seen f_g_first_race f_g_is_weaving f_g_woven f_g_law_cell_at f_g_law_numbers f_g_law_by_lock f_g_law_deeds f_g_law_last f_g_law_first f_g_law_alike f_g_law : Addr}
    (a_C : PySem.W.nsIn K mainGlobals "Past" = some (some (.ref C)))
    (a_CR : PySem.W.nsIn K mainGlobals "Row" = some (some (.ref CR)))
    (a_m_C_init : PySem.W.findIn K (.ref C) "__init__" = some (some (.ref f_m_C_init)))
    (i_m_C_init : PySem.W.isFn K (.ref f_m_C_init) = true)
    (l_m_C_init : K.lookup f_m_C_init = some ⟨oc_m_C_init, od_m_C_init, .func (PySem.W.fnOf "__init__" "Past.__init__" (defArgs sInit) (defBody sInit) (defScope sInit) .none kV_m_C_init dc_m_C_init pm_m_C_init an_m_C_init cd_m_C_init ct_m_C_init), sl_m_C_init⟩)
    (c_m_C_init : PySem.W.codeIn K cd_m_C_init "Past.__init__" = true)
    (k_m_C_init : PySem.W.keepIn K (.ref f_m_C_init) = true)
    (a_m_C_fault_of_thread : PySem.W.findIn K (.ref C) "fault_of_thread" = some (some (.ref f_m_C_fault_of_thread)))
    (i_m_C_fault_of_thread : PySem.W.isFn K (.ref f_m_C_fault_of_thread) = true)
    (l_m_C_fault_of_thread : K.lookup f_m_C_fault_of_thread = some ⟨oc_m_C_fault_of_thread, od_m_C_fault_of_thread, .func (PySem.W.fnOf "fault_of_thread" "Past.fault_of_thread" (defArgs sTh) (defBody sTh) (defScope sTh) .none kV_m_C_fault_of_thread dc_m_C_fault_of_thread pm_m_C_fault_of_thread an_m_C_fault_of_thread cd_m_C_fault_of_thread ct_m_C_fault_of_thread), sl_m_C_fault_of_thread⟩)
    (c_m_C_fault_of_thread : PySem.W.codeIn K cd_m_C_fault_of_thread "Past.fault_of_thread" = true)
    (k_m_C_fault_of_thread : PySem.W.keepIn K (.ref f_m_C_fault_of_thread) = true)
    (a_m_C_fault_of_word : PySem.W.findIn K (.ref C) "fault_of_word" = some (some (.ref f_m_C_fault_of_word)))
    (i_m_C_fault_of_word : PySem.W.isFn K (.ref f_m_C_fault_of_word) = true)
    (l_m_C_fault_of_word : K.lookup f_m_C_fault_of_word = some ⟨oc_m_C_fault_of_word, od_m_C_fault_of_word, .func (PySem.W.fnOf "fault_of_word" "Past.fault_of_word" (defArgs sWo) (defBody sWo) (defScope sWo) .none kV_m_C_fault_of_word dc_m_C_fault_of_word pm_m_C_fault_of_word an_m_C_fault_of_word cd_m_C_fault_of_word ct_m_C_fault_of_word), sl_m_C_fault_of_word⟩)
    (c_m_C_fault_of_word : PySem.W.codeIn K cd_m_C_fault_of_word "Past.fault_of_word" = true)
    (k_m_C_fault_of_word : PySem.W.keepIn K (.ref f_m_C_fault_of_word) = true)
    (a_m_C_follow : PySem.W.findIn K (.ref C) "follow" = some (some (.ref f_m_C_follow)))
    (i_m_C_follow : PySem.W.isFn K (.ref f_m_C_follow) = true)
    (l_m_C_follow : K.lookup f_m_C_follow = some ⟨oc_m_C_follow, od_m_C_follow, .func (PySem.W.fnOf "follow" "Past.follow" (defArgs sFol) (defBody sFol) (defScope sFol) .none kV_m_C_follow dc_m_C_follow pm_m_C_follow an_m_C_follow cd_m_C_follow ct_m_C_follow), sl_m_C_follow⟩)
    (c_m_C_follow : PySem.W.codeIn K cd_m_C_follow "Past.follow" = true)
    (k_m_C_follow : PySem.W.keepIn K (.ref f_m_C_follow) = true)
    (a_m_CR_init : PySem.W.findIn K (.ref CR) "__init__" = some (some (.ref f_m_CR_init)))
    (i_m_CR_init : PySem.W.isFn K (.ref f_m_CR_init) = true)
    (l_m_CR_init : K.lookup f_m_CR_init = some ⟨oc_m_CR_init, od_m_CR_init, .func (PySem.W.fnOf "__init__" "Row.__init__" (defArgs sRow) (defBody sRow) (defScope sRow) .none kV_m_CR_init dc_m_CR_init pm_m_CR_init an_m_CR_init cd_m_CR_init ct_m_CR_init), sl_m_CR_init⟩)
    (c_m_CR_init : PySem.W.codeIn K cd_m_CR_init "Row.__init__" = true)
    (k_m_CR_init : PySem.W.keepIn K (.ref f_m_CR_init) = true)
    (a_m_CR_deed : PySem.W.findIn K (.ref CR) "deed" = some (some (.ref f_m_CR_deed)))
    (i_m_CR_deed : PySem.W.isFn K (.ref f_m_CR_deed) = true)
    (l_m_CR_deed : K.lookup f_m_CR_deed = some ⟨oc_m_CR_deed, od_m_CR_deed, .func (PySem.W.fnOf "deed" "Row.deed" (defArgs sDeed) (defBody sDeed) (defScope sDeed) .none kV_m_CR_deed dc_m_CR_deed pm_m_CR_deed an_m_CR_deed cd_m_CR_deed ct_m_CR_deed), sl_m_CR_deed⟩)
    (c_m_CR_deed : PySem.W.codeIn K cd_m_CR_deed "Row.deed" = true)
    (k_m_CR_deed : PySem.W.keepIn K (.ref f_m_CR_deed) = true)
    (a_m_CR_deeds : PySem.W.findIn K (.ref CR) "deeds" = some (some (.ref f_m_CR_deeds)))
    (i_m_CR_deeds : PySem.W.isFn K (.ref f_m_CR_deeds) = true)
    (l_m_CR_deeds : K.lookup f_m_CR_deeds = some ⟨oc_m_CR_deeds, od_m_CR_deeds, .func (PySem.W.fnOf "deeds" "Row.deeds" (defArgs sRDs) (defBody sRDs) (defScope sRDs) .none kV_m_CR_deeds dc_m_CR_deeds pm_m_CR_deeds an_m_CR_deeds cd_m_CR_deeds ct_m_CR_deeds), sl_m_CR_deeds⟩)
    (c_m_CR_deeds : PySem.W.codeIn K cd_m_CR_deeds "Row.deeds" = true)
    (k_m_CR_deeds : PySem.W.keepIn K (.ref f_m_CR_deeds) = true)
    (a_g_joined : PySem.W.nsIn K mainGlobals "joined" = some (some (.ref f_g_joined)))
    (l_g_joined : K.lookup f_g_joined = some ⟨oc_g_joined, od_g_joined, .func (PySem.W.fnOf "joined" "joined" (defArgs sJoin) (defBody sJoin) (defScope sJoin) .none kV_g_joined dc_g_joined pm_g_joined an_g_joined cd_g_joined ct_g_joined), sl_g_joined⟩)
    (c_g_joined : PySem.W.codeIn K cd_g_joined "joined" = true)
    (k_g_joined : PySem.W.keepIn K (.ref f_g_joined) = true)
    (a_g_clocks : PySem.W.nsIn K mainGlobals "clocks" = some (some (.ref f_g_clocks)))
    (l_g_clocks : K.lookup f_g_clocks = some ⟨oc_g_clocks, od_g_clocks, .func (PySem.W.fnOf "clocks" "clocks" (defArgs sClk) (defBody sClk) (defScope sClk) .none kV_g_clocks dc_g_clocks pm_g_clocks an_g_clocks cd_g_clocks ct_g_clocks), sl_g_clocks⟩)
    (c_g_clocks : PySem.W.codeIn K cd_g_clocks "clocks" = true)
    (k_g_clocks : PySem.W.keepIn K (.ref f_g_clocks) = true)
    (a_g_reaches : PySem.W.nsIn K mainGlobals "reaches" = some (some (.ref f_g_reaches)))
    (l_g_reaches : K.lookup f_g_reaches = some ⟨oc_g_reaches, od_g_reaches, .func (PySem.W.fnOf "reaches" "reaches" (defArgs s_reaches) (defBody s_reaches) (defScope s_reaches) .none kV_g_reaches dc_g_reaches pm_g_reaches an_g_reaches cd_g_reaches ct_g_reaches), sl_g_reaches⟩)
    (c_g_reaches : PySem.W.codeIn K cd_g_reaches "reaches" = true)
    (k_g_reaches : PySem.W.keepIn K (.ref f_g_reaches) = true)
    (a_g_fault_of_form : PySem.W.nsIn K mainGlobals "fault_of_form" = some (some (.ref f_g_fault_of_form)))
    (l_g_fault_of_form : K.lookup f_g_fault_of_form = some ⟨oc_g_fault_of_form, od_g_fault_of_form, .func (PySem.W.fnOf "fault_of_form" "fault_of_form" (defArgs sForm) (defBody sForm) (defScope sForm) .none kV_g_fault_of_form dc_g_fault_of_form pm_g_fault_of_form an_g_fault_of_form cd_g_fault_of_form ct_g_fault_of_form), sl_g_fault_of_form⟩)
    (c_g_fault_of_form : PySem.W.codeIn K cd_g_fault_of_form "fault_of_form" = true)
    (k_g_fault_of_form : PySem.W.keepIn K (.ref f_g_fault_of_form) = true)
    (a_g_fault_of_deed : PySem.W.nsIn K mainGlobals "fault_of_deed" = some (some (.ref f_g_fault_of_deed)))
    (l_g_fault_of_deed : K.lookup f_g_fault_of_deed = some ⟨oc_g_fault_of_deed, od_g_fault_of_deed, .func (PySem.W.fnOf "fault_of_deed" "fault_of_deed" (defArgs sOf) (defBody sOf) (defScope sOf) .none kV_g_fault_of_deed dc_g_fault_of_deed pm_g_fault_of_deed an_g_fault_of_deed cd_g_fault_of_deed ct_g_fault_of_deed), sl_g_fault_of_deed⟩)
    (c_g_fault_of_deed : PySem.W.codeIn K cd_g_fault_of_deed "fault_of_deed" = true)
    (k_g_fault_of_deed : PySem.W.keepIn K (.ref f_g_fault_of_deed) = true)
    (a_g_fault : PySem.W.nsIn K mainGlobals "fault" = some (some (.ref f_g_fault)))
    (l_g_fault : K.lookup f_g_fault = some ⟨oc_g_fault, od_g_fault, .func (PySem.W.fnOf "fault" "fault" (defArgs sFault) (defBody sFault) (defScope sFault) .none kV_g_fault dc_g_fault pm_g_fault an_g_fault cd_g_fault ct_g_fault), sl_g_fault⟩)
    (c_g_fault : PySem.W.codeIn K cd_g_fault "fault" = true)
    (k_g_fault : PySem.W.keepIn K (.ref f_g_fault) = true)
    (a_g_touches : PySem.W.nsIn K mainGlobals "touches" = some (some (.ref f_g_touches)))
    (l_g_touches : K.lookup f_g_touches = some ⟨oc_g_touches, od_g_touches, .func (PySem.W.fnOf "touches" "touches" (defArgs s_touches) (defBody s_touches) (defScope s_touches) .none kV_g_touches dc_g_touches pm_g_touches an_g_touches cd_g_touches ct_g_touches), sl_g_touches⟩)
    (c_g_touches : PySem.W.codeIn K cd_g_touches "touches" = true)
    (k_g_touches : PySem.W.keepIn K (.ref f_g_touches) = true)
    (a_g_at_odds : PySem.W.nsIn K mainGlobals "at_odds" = some (some (.ref f_g_at_odds)))
    (l_g_at_odds : K.lookup f_g_at_odds = some ⟨oc_g_at_odds, od_g_at_odds, .func (PySem.W.fnOf "at_odds" "at_odds" (defArgs s_at_odds) (defBody s_at_odds) (defScope s_at_odds) .none kV_g_at_odds dc_g_at_odds pm_g_at_odds an_g_at_odds cd_g_at_odds ct_g_at_odds), sl_g_at_odds⟩)
    (c_g_at_odds : PySem.W.codeIn K cd_g_at_odds "at_odds" = true)
    (k_g_at_odds : PySem.W.keepIn K (.ref f_g_at_odds) = true)
    (a_g_pairs_at_odds : PySem.W.nsIn K mainGlobals "pairs_at_odds" = some (some (.ref f_g_pairs_at_odds)))
    (l_g_pairs_at_odds : K.lookup f_g_pairs_at_odds = some ⟨oc_g_pairs_at_odds, od_g_pairs_at_odds, .func (PySem.W.fnOf "pairs_at_odds" "pairs_at_odds" (defArgs s_pairs_at_odds) (defBody s_pairs_at_odds) (defScope s_pairs_at_odds) .none kV_g_pairs_at_odds dc_g_pairs_at_odds pm_g_pairs_at_odds an_g_pairs_at_odds cd_g_pairs_at_odds ct_g_pairs_at_odds), sl_g_pairs_at_odds⟩)
    (c_g_pairs_at_odds : PySem.W.codeIn K cd_g_pairs_at_odds "pairs_at_odds" = true)
    (k_g_pairs_at_odds : PySem.W.keepIn K (.ref f_g_pairs_at_odds) = true)
    (a_g_races : PySem.W.nsIn K mainGlobals "races" = some (some (.ref f_g_races)))
    (l_g_races : K.lookup f_g_races = some ⟨oc_g_races, od_g_races, .func (PySem.W.fnOf "races" "races" (defArgs s_races) (defBody s_races) (defScope s_races) .none kV_g_races dc_g_races pm_g_races an_g_races cd_g_races ct_g_races), sl_g_races⟩)
    (c_g_races : PySem.W.codeIn K cd_g_races "races" = true)
    (k_g_races : PySem.W.keepIn K (.ref f_g_races) = true)
    (a_g_beside : PySem.W.nsIn K mainGlobals "beside" = some (some (.ref f_g_beside)))
    (l_g_beside : K.lookup f_g_beside = some ⟨oc_g_beside, od_g_beside, .func (PySem.W.fnOf "beside" "beside" (defArgs s_beside) (defBody s_beside) (defScope s_beside) .none kV_g_beside dc_g_beside pm_g_beside an_g_beside cd_g_beside ct_g_beside), sl_g_beside⟩)
    (c_g_beside : PySem.W.codeIn K cd_g_beside "beside" = true)
    (k_g_beside : PySem.W.keepIn K (.ref f_g_beside) = true)
    (a_g_seen : PySem.W.nsIn K mainGlobals "seen" = some (some (.ref f_g_seen)))
    (l_g_seen : K.lookup f_g_seen = some ⟨oc_g_seen, od_g_seen, .func (PySem.W.fnOf "seen" "seen" (defArgs s_seen) (defBody s_seen) (defScope s_seen) .none kV_g_seen dc_g_seen pm_g_seen an_g_seen cd_g_seen ct_g_seen), sl_g_seen⟩)
    (c_g_seen : PySem.W.codeIn K cd_g_seen "seen" = true)
    (k_g_seen : PySem.W.keepIn K (.ref f_g_seen) = true)
    (a_g_first_race : PySem.W.nsIn K mainGlobals "first_race" = some (some (.ref f_g_first_race)))
    (l_g_first_race : K.lookup f_g_first_race = some ⟨oc_g_first_race, od_g_first_race, .func (PySem.W.fnOf "first_race" "first_race" (defArgs s_first_race) (defBody s_first_race) (defScope s_first_race) .none kV_g_first_race dc_g_first_race pm_g_first_race an_g_first_race cd_g_first_race ct_g_first_race), sl_g_first_race⟩)
    (c_g_first_race : PySem.W.codeIn K cd_g_first_race "first_race" = true)
    (k_g_first_race : PySem.W.keepIn K (.ref f_g_first_race) = true)
    (a_g_is_weaving : PySem.W.nsIn K mainGlobals "is_weaving" = some (some (.ref f_g_is_weaving)))
    (l_g_is_weaving : K.lookup f_g_is_weaving = some ⟨oc_g_is_weaving, od_g_is_weaving, .func (PySem.W.fnOf "is_weaving" "is_weaving" (defArgs s_is_weaving) (defBody s_is_weaving) (defScope s_is_weaving) .none kV_g_is_weaving dc_g_is_weaving pm_g_is_weaving an_g_is_weaving cd_g_is_weaving ct_g_is_weaving), sl_g_is_weaving⟩)
    (c_g_is_weaving : PySem.W.codeIn K cd_g_is_weaving "is_weaving" = true)
    (k_g_is_weaving : PySem.W.keepIn K (.ref f_g_is_weaving) = true)
    (a_g_woven : PySem.W.nsIn K mainGlobals "woven" = some (some (.ref f_g_woven)))
    (l_g_woven : K.lookup f_g_woven = some ⟨oc_g_woven, od_g_woven, .func (PySem.W.fnOf "woven" "woven" (defArgs s_woven) (defBody s_woven) (defScope s_woven) .none kV_g_woven dc_g_woven pm_g_woven an_g_woven cd_g_woven ct_g_woven), sl_g_woven⟩)
    (c_g_woven : PySem.W.codeIn K cd_g_woven "woven" = true)
    (k_g_woven : PySem.W.keepIn K (.ref f_g_woven) = true)
    (a_g_law_cell_at : PySem.W.nsIn K mainGlobals "_law_cell_at" = some (some (.ref f_g_law_cell_at)))
    (l_g_law_cell_at : K.lookup f_g_law_cell_at = some ⟨oc_g_law_cell_at, od_g_law_cell_at, .func (PySem.W.fnOf "_law_cell_at" "_law_cell_at" (defArgs sCell) (defBody sCell) (defScope sCell) .none kV_g_law_cell_at dc_g_law_cell_at pm_g_law_cell_at an_g_law_cell_at cd_g_law_cell_at ct_g_law_cell_at), sl_g_law_cell_at⟩)
    (c_g_law_cell_at : PySem.W.codeIn K cd_g_law_cell_at "_law_cell_at" = true)
    (k_g_law_cell_at : PySem.W.keepIn K (.ref f_g_law_cell_at) = true)
    (a_g_law_numbers : PySem.W.nsIn K mainGlobals "_law_numbers" = some (some (.ref f_g_law_numbers)))
    (l_g_law_numbers : K.lookup f_g_law_numbers = some ⟨oc_g_law_numbers, od_g_law_numbers, .func (PySem.W.fnOf "_law_numbers" "_law_numbers" (defArgs sNum) (defBody sNum) (defScope sNum) .none kV_g_law_numbers dc_g_law_numbers pm_g_law_numbers an_g_law_numbers cd_g_law_numbers ct_g_law_numbers), sl_g_law_numbers⟩)
    (c_g_law_numbers : PySem.W.codeIn K cd_g_law_numbers "_law_numbers" = true)
    (k_g_law_numbers : PySem.W.keepIn K (.ref f_g_law_numbers) = true)
    (a_g_law_by_lock : PySem.W.nsIn K mainGlobals "_law_by_lock" = some (some (.ref f_g_law_by_lock)))
    (l_g_law_by_lock : K.lookup f_g_law_by_lock = some ⟨oc_g_law_by_lock, od_g_law_by_lock, .func (PySem.W.fnOf "_law_by_lock" "_law_by_lock" (defArgs sLock) (defBody sLock) (defScope sLock) .none kV_g_law_by_lock dc_g_law_by_lock pm_g_law_by_lock an_g_law_by_lock cd_g_law_by_lock ct_g_law_by_lock), sl_g_law_by_lock⟩)
    (c_g_law_by_lock : PySem.W.codeIn K cd_g_law_by_lock "_law_by_lock" = true)
    (k_g_law_by_lock : PySem.W.keepIn K (.ref f_g_law_by_lock) = true)
    (a_g_law_deeds : PySem.W.nsIn K mainGlobals "_law_deeds" = some (some (.ref f_g_law_deeds)))
    (l_g_law_deeds : K.lookup f_g_law_deeds = some ⟨oc_g_law_deeds, od_g_law_deeds, .func (PySem.W.fnOf "_law_deeds" "_law_deeds" (defArgs sDeeds) (defBody sDeeds) (defScope sDeeds) .none kV_g_law_deeds dc_g_law_deeds pm_g_law_deeds an_g_law_deeds cd_g_law_deeds ct_g_law_deeds), sl_g_law_deeds⟩)
    (c_g_law_deeds : PySem.W.codeIn K cd_g_law_deeds "_law_deeds" = true)
    (k_g_law_deeds : PySem.W.keepIn K (.ref f_g_law_deeds) = true)
    (a_g_law_last : PySem.W.nsIn K mainGlobals "_law_last" = some (some (.ref f_g_law_last)))
    (l_g_law_last : K.lookup f_g_law_last = some ⟨oc_g_law_last, od_g_law_last, .func (PySem.W.fnOf "_law_last" "_law_last" (defArgs s__law_last) (defBody s__law_last) (defScope s__law_last) .none kV_g_law_last dc_g_law_last pm_g_law_last an_g_law_last cd_g_law_last ct_g_law_last), sl_g_law_last⟩)
    (c_g_law_last : PySem.W.codeIn K cd_g_law_last "_law_last" = true)
    (k_g_law_last : PySem.W.keepIn K (.ref f_g_law_last) = true)
    (a_g_law_first : PySem.W.nsIn K mainGlobals "_law_first" = some (some (.ref f_g_law_first)))
    (l_g_law_first : K.lookup f_g_law_first = some ⟨oc_g_law_first, od_g_law_first, .func (PySem.W.fnOf "_law_first" "_law_first" (defArgs s__law_first) (defBody s__law_first) (defScope s__law_first) .none kV_g_law_first dc_g_law_first pm_g_law_first an_g_law_first cd_g_law_first ct_g_law_first), sl_g_law_first⟩)
    (c_g_law_first : PySem.W.codeIn K cd_g_law_first "_law_first" = true)
    (k_g_law_first : PySem.W.keepIn K (.ref f_g_law_first) = true)
    (a_g_law_alike : PySem.W.nsIn K mainGlobals "_law_alike" = some (some (.ref f_g_law_alike)))
    (l_g_law_alike : K.lookup f_g_law_alike = some ⟨oc_g_law_alike, od_g_law_alike, .func (PySem.W.fnOf "_law_alike" "_law_alike" (defArgs s__law_alike) (defBody s__law_alike) (defScope s__law_alike) .none kV_g_law_alike dc_g_law_alike pm_g_law_alike an_g_law_alike cd_g_law_alike ct_g_law_alike), sl_g_law_alike⟩)
    (c_g_law_alike : PySem.W.codeIn K cd_g_law_alike "_law_alike" = true)
    (k_g_law_alike : PySem.W.keepIn K (.ref f_g_law_alike) = true)
    (a_g_law : PySem.W.nsIn K mainGlobals "law" = some (some (.ref f_g_law)))
    (l_g_law : K.lookup f_g_law = some ⟨oc_g_law, od_g_law, .func (PySem.W.fnOf "law" "law" (defArgs sLaw) (defBody sLaw) (defScope sLaw) .none kV_g_law dc_g_law pm_g_law an_g_law cd_g_law ct_g_law), sl_g_law⟩)
    (c_g_law : PySem.W.codeIn K cd_g_law "law" = true)
    (k_g_law : PySem.W.keepIn K (.ref f_g_law) = true)
    (n_aW : PySem.W.nsIn K mainGlobals "WORDS" = some (some (.ref aW)))
    (l_aW : K.lookup aW = some ⟨.type "tuple", od_aW, .seq #[.str "read" t_aW0, .str "write" t_aW1, .str "take" t_aW2, .str "give" t_aW3, .str "fork" t_aW4, .str "wait" t_aW5] nn_aW, sl_aW⟩)
    (n_aT : PySem.W.nsIn K mainGlobals "WORDS_OF_THREADS" = some (some (.ref aT)))
    (l_aT : K.lookup aT = some ⟨.type "tuple", od_aT, .seq #[.str "fork" t_aT0, .str "wait" t_aT1] nn_aT, sl_aT⟩)
    (n_aN : PySem.W.nsIn K mainGlobals "WORDS_OF_NAMES" = some (some (.ref aN)))
    (l_aN : K.lookup aN = some ⟨.type "tuple", od_aN, .seq #[.str "read" t_aN0, .str "write" t_aN1] nn_aN, sl_aN⟩)
    (n_MOST_THREADS : PySem.W.nsIn K mainGlobals "MOST_THREADS" = some (some (.int 6 ti_MOST_THREADS)))
    (n_MOST_DEEDS : PySem.W.nsIn K mainGlobals "MOST_DEEDS" = some (some (.int 60 ti_MOST_DEEDS)))
    (pg_C : PySem.W.plainGet K C Str.empty = true)
    (hd_C : PySem.W.hasDictIn K C = true)
    (po_C : PySem.W.plainOver K C = true)
    (sa_C : PySem.W.findIn K (.ref C) "__setattr__" = some (some (.builtin "object.__setattr__")))
    (mk_C : PySem.W.makesIn K C = true)
    (kc_C : PySem.W.keepIn K (.ref C) = true)
    (nf_C_awake : PySem.W.findIn K (.ref C) "awake" = some none)
    (nf_C_gone : PySem.W.findIn K (.ref C) "gone" = some none)
    (nf_C_holders : PySem.W.findIn K (.ref C) "holders" = some none)
    (pg_CR : PySem.W.plainGet K CR Str.empty = true)
    (hd_CR : PySem.W.hasDictIn K CR = true)
    (po_CR : PySem.W.plainOver K CR = true)
    (sa_CR : PySem.W.findIn K (.ref CR) "__setattr__" = some (some (.builtin "object.__setattr__")))
    (mk_CR : PySem.W.makesIn K CR = true)
    (kc_CR : PySem.W.keepIn K (.ref CR) = true)
    (nf_CR_many : PySem.W.findIn K (.ref CR) "many" = some none)
    (nf_CR_size : PySem.W.findIn K (.ref CR) "size" = some none)
    (nf_CR_all_deeds : PySem.W.findIn K (.ref CR) "all_deeds" = some none)
    (e_tab : cd_g_first_race = .ref tc)
    (h_tab : PySem.W.codeHdIn K tc tP = true)
    (z_len : PySem.W.nsIn K mainGlobals "len" = some none)
    (z_enumerate : PySem.W.nsIn K mainGlobals "enumerate" = some none)
    (z_range : PySem.W.nsIn K mainGlobals "range" = some none)
    (z_isinstance : PySem.W.nsIn K mainGlobals "isinstance" = some none)
    (z_int : PySem.W.nsIn K mainGlobals "int" = some none)
    (z_bool : PySem.W.nsIn K mainGlobals "bool" = some none)
    (z_str : PySem.W.nsIn K mainGlobals "str" = some none)
    (z_tuple : PySem.W.nsIn K mainGlobals "tuple" = some none)
    (z_list : PySem.W.nsIn K mainGlobals "list" = some none)
    (z_max : PySem.W.nsIn K mainGlobals "max" = some none)
    (z_min : PySem.W.nsIn K mainGlobals "min" = some none)
    (z_zip : PySem.W.nsIn K mainGlobals "zip" = some none)
    (z_sorted : PySem.W.nsIn K mainGlobals "sorted" = some none)
    (z_reversed : PySem.W.nsIn K mainGlobals "reversed" = some none) :
    ∃ fd : FuncData, (∀ (s : Shared) (v : Value), BindsTo s fd ⟨[v], []⟩ [("_law_script", v)]) ∧ ∀ base : Heap, K.In base → base.Ns mainGlobals mg → BM mg base → FnOk l.prog w K mg base CX0 9 fa fd ["_law_script"] (spLawT tP K) := by
  have e := hfa.symm.trans (PySem.W.mg_of X G a_g_law)
  cases e
  have T : Txt K mg C aW aT := ⟨⟨pg_C, hd_C, po_C, sa_C⟩, nf_C_awake, nf_C_gone, nf_C_holders, PySem.W.mg_of X G a_C, PySem.W.mg_of X G n_aW, PySem.W.mg_of X G n_aT,
    fun H => .inr ⟨_, _, _, l_aW, rfl, rfl, (by show 6 ≤ sizeLine; decide), .cons ⟨_, rfl⟩ (.cons ⟨_, rfl⟩ (.cons ⟨_, rfl⟩ (.cons ⟨_, rfl⟩ (.cons ⟨_, rfl⟩ (.cons ⟨_, rfl⟩ .nil)))))⟩,
    fun H => .inr ⟨_, _, _, l_aT, rfl, rfl, (by show 2 ≤ sizeLine; decide), .cons ⟨_, rfl⟩ (.cons ⟨_, rfl⟩ .nil)⟩,
    PySem.W.mg_none_of X G z_len, PySem.W.mg_none_of X G z_enumerate, PySem.W.mg_none_of X G z_range, PySem.W.mg_none_of X G z_isinstance, PySem.W.mg_none_of X G z_int, PySem.W.mg_none_of X G z_bool, PySem.W.mg_none_of X G z_str, PySem.W.mg_none_of X G z_tuple, PySem.W.mg_none_of X G z_list⟩
  subst e_tab
  have R : TxtR K mg CR := ⟨⟨pg_CR, hd_CR, po_CR, sa_CR⟩, nf_CR_many, nf_CR_size, nf_CR_all_deeds, PySem.W.mg_of X G a_CR, ⟨_, PySem.W.mg_of X G n_MOST_THREADS⟩, ⟨_, PySem.W.mg_of X G n_MOST_DEEDS⟩⟩
  have Z : TxtC mg := ⟨PySem.W.mg_none_of X G z_max, PySem.W.mg_none_of X G z_zip⟩
  have N : TxtN K mg aN := ⟨PySem.W.mg_of X G n_aN, fun H => .inr ⟨_, _, _, l_aN, rfl, rfl, (by show 2 ≤ sizeLine; decide), .cons ⟨_, rfl⟩ (.cons ⟨_, rfl⟩ .nil)⟩⟩
  have F_m_C_init := fun_mk (st := sInit) l_m_C_init c_m_C_init k_m_C_init
  have b_m_C_init : Binds K _ ["self"] [] := F_m_C_init.b1 fun _ _ _ _ _ _ _ => rfl
  have F_m_C_fault_of_thread := fun_mk (st := sTh) l_m_C_fault_of_thread c_m_C_fault_of_thread k_m_C_fault_of_thread
  have b_m_C_fault_of_thread : Binds K _ ["self", "thread"] [] := F_m_C_fault_of_thread.b2 fun _ _ _ _ _ _ _ _ => rfl
  have F_m_C_fault_of_word := fun_mk (st := sWo) l_m_C_fault_of_word c_m_C_fault_of_word k_m_C_fault_of_word
  have b_m_C_fault_of_word : Binds K _ ["self", "thread", "word", "thing"] [] := F_m_C_fault_of_word.b4 fun _ _ _ _ _ _ _ _ _ _ => rfl
  have F_m_C_follow := fun_mk (st := sFol) l_m_C_follow c_m_C_follow k_m_C_follow
  have b_m_C_follow : Binds K _ ["self", "thread", "word", "thing"] [] := F_m_C_follow.b4 fun _ _ _ _ _ _ _ _ _ _ => rfl
  have F_m_CR_init := fun_mk (st := sRow) l_m_CR_init c_m_CR_init k_m_CR_init
  have b_m_CR_init : Binds K _ ["self", "many", "deeds"] [] := F_m_CR_init.b3 fun _ _ _ _ _ _ _ _ _ => rfl
  have F_m_CR_deed := fun_mk (st := sDeed) l_m_CR_deed c_m_CR_deed k_m_CR_deed
  have b_m_CR_deed : Binds K _ ["self", "place"] [] := F_m_CR_deed.b2 fun _ _ _ _ _ _ _ _ => rfl
  have F_m_CR_deeds := fun_mk (st := sRDs) l_m_CR_deeds c_m_CR_deeds k_m_CR_deeds
  have b_m_CR_deeds : Binds K _ ["self"] [] := F_m_CR_deeds.b1 fun _ _ _ _ _ _ _ => rfl
  have F_g_joined := fun_mk (st := sJoin) l_g_joined c_g_joined k_g_joined
  have b_g_joined : Binds K _ ["one", "other"] [] := F_g_joined.b2 fun _ _ _ _ _ _ _ _ => rfl
  have C_g_joined : Cal K mg "joined" f_g_joined _ ["one", "other"] := ⟨PySem.W.mg_of X G a_g_joined, k_g_joined, b_g_joined⟩
  have F_g_clocks := fun_mk (st := sClk) l_g_clocks c_g_clocks k_g_clocks
  have b_g_clocks : Binds K _ ["row"] [] := F_g_clocks.b1 fun _ _ _ _ _ _ _ => rfl
  have C_g_clocks : Cal K mg "clocks" f_g_clocks _ ["row"] := ⟨PySem.W.mg_of X G a_g_clocks, k_g_clocks, b_g_clocks⟩
  have F_g_reaches := fun_mk (st := s_reaches) l_g_reaches c_g_reaches k_g_reaches
  have b_g_reaches : Binds K _ ["row", "told", "one", "other"] [] := F_g_reaches.b4 fun _ _ _ _ _ _ _ _ _ _ => rfl
  have C_g_reaches : Cal K mg "reaches" f_g_reaches _ ["row", "told", "one", "other"] := ⟨PySem.W.mg_of X G a_g_reaches, k_g_reaches, b_g_reaches⟩
  have F_g_fault_of_form := fun_mk (st := sForm) l_g_fault_of_form c_g_fault_of_form k_g_fault_of_form
  have b_g_fault_of_form : Binds K _ ["many", "thread", "word", "thing"] [] := F_g_fault_of_form.b4 fun _ _ _ _ _ _ _ _ _ _ => rfl
  have C_g_fault_of_form : Cal K mg "fault_of_form" f_g_fault_of_form _ ["many", "thread", "word", "thing"] := ⟨PySem.W.mg_of X G a_g_fault_of_form, k_g_fault_of_form, b_g_fault_of_form⟩
  have F_g_fault_of_deed := fun_mk (st := sOf) l_g_fault_of_deed c_g_fault_of_deed k_g_fault_of_deed
  have b_g_fault_of_deed : Binds K _ ["many", "past", "thread", "word", "thing"] [] := F_g_fault_of_deed.b5 fun _ _ _ _ _ _ _ _ _ _ _ => rfl
  have C_g_fault_of_deed : Cal K mg "fault_of_deed" f_g_fault_of_deed _ ["many", "past", "thread", "word", "thing"] := ⟨PySem.W.mg_of X G a_g_fault_of_deed, k_g_fault_of_deed, b_g_fault_of_deed⟩
  have F_g_fault := fun_mk (st := sFault) l_g_fault c_g_fault k_g_fault
  have b_g_fault : Binds K _ ["many", "deeds"] [] := F_g_fault.b2 fun _ _ _ _ _ _ _ _ => rfl
  have C_g_fault : Cal K mg "fault" f_g_fault _ ["many", "deeds"] := ⟨PySem.W.mg_of X G a_g_fault, k_g_fault, b_g_fault⟩
  have F_g_touches := fun_mk (st := s_touches) l_g_touches c_g_touches k_g_touches
  have b_g_touches : Binds K _ ["deed", "name"] [] := F_g_touches.b2 fun _ _ _ _ _ _ _ _ => rfl
  have C_g_touches : Cal K mg "touches" f_g_touches _ ["deed", "name"] := ⟨PySem.W.mg_of X G a_g_touches, k_g_touches, b_g_touches⟩
  have F_g_at_odds := fun_mk (st := s_at_odds) l_g_at_odds c_g_at_odds k_g_at_odds
  have b_g_at_odds : Binds K _ ["one", "other"] [] := F_g_at_odds.b2 fun _ _ _ _ _ _ _ _ => rfl
  have C_g_at_odds : Cal K mg "at_odds" f_g_at_odds _ ["one", "other"] := ⟨PySem.W.mg_of X G a_g_at_odds, k_g_at_odds, b_g_at_odds⟩
  have F_g_pairs_at_odds := fun_mk (st := s_pairs_at_odds) l_g_pairs_at_odds c_g_pairs_at_odds k_g_pairs_at_odds
  have b_g_pairs_at_odds : Binds K _ ["row"] [] := F_g_pairs_at_odds.b1 fun _ _ _ _ _ _ _ => rfl
  have C_g_pairs_at_odds : Cal K mg "pairs_at_odds" f_g_pairs_at_odds _ ["row"] := ⟨PySem.W.mg_of X G a_g_pairs_at_odds, k_g_pairs_at_odds, b_g_pairs_at_odds⟩
  have F_g_races := fun_mk (st := s_races) l_g_races c_g_races k_g_races
  have b_g_races : Binds K _ ["row"] [] := F_g_races.b1 fun _ _ _ _ _ _ _ => rfl
  have C_g_races : Cal K mg "races" f_g_races _ ["row"] := ⟨PySem.W.mg_of X G a_g_races, k_g_races, b_g_races⟩
  have F_g_beside := fun_mk (st := s_beside) l_g_beside c_g_beside k_g_beside
  have b_g_beside : Binds K _ ["row", "one", "other"] [] := F_g_beside.b3 fun _ _ _ _ _ _ _ _ _ => rfl
  have C_g_beside : Cal K mg "beside" f_g_beside _ ["row", "one", "other"] := ⟨PySem.W.mg_of X G a_g_beside, k_g_beside, b_g_beside⟩
  have F_g_seen := fun_mk (st := s_seen) l_g_seen c_g_seen k_g_seen
  have b_g_seen : Binds K _ ["row"] [] := F_g_seen.b1 fun _ _ _ _ _ _ _ => rfl
  have C_g_seen : Cal K mg "seen" f_g_seen _ ["row"] := ⟨PySem.W.mg_of X G a_g_seen, k_g_seen, b_g_seen⟩
  have F_g_first_race := fun_mk (st := s_first_race) l_g_first_race c_g_first_race k_g_first_race
  have b_g_first_race : Binds K _ ["row"] [] := F_g_first_race.b1 fun _ _ _ _ _ _ _ => rfl
  have C_g_first_race : Cal K mg "first_race" f_g_first_race _ ["row"] := ⟨PySem.W.mg_of X G a_g_first_race, k_g_first_race, b_g_first_race⟩
  have F_g_is_weaving := fun_mk (st := s_is_weaving) l_g_is_weaving c_g_is_weaving k_g_is_weaving
  have b_g_is_weaving : Binds K _ ["row", "order"] [] := F_g_is_weaving.b2 fun _ _ _ _ _ _ _ _ => rfl
  have C_g_is_weaving : Cal K mg "is_weaving" f_g_is_weaving _ ["row", "order"] := ⟨PySem.W.mg_of X G a_g_is_weaving, k_g_is_weaving, b_g_is_weaving⟩
  have F_g_woven := fun_mk (st := s_woven) l_g_woven c_g_woven k_g_woven
  have b_g_woven : Binds K _ ["row", "order"] [] := F_g_woven.b2 fun _ _ _ _ _ _ _ _ => rfl
  have C_g_woven : Cal K mg "woven" f_g_woven _ ["row", "order"] := ⟨PySem.W.mg_of X G a_g_woven, k_g_woven, b_g_woven⟩
  have F_g_law_cell_at := fun_mk (st := sCell) l_g_law_cell_at c_g_law_cell_at k_g_law_cell_at
  have b_g_law_cell_at : Binds K _ ["_law_script", "_law_k"] [] := F_g_law_cell_at.b2 fun _ _ _ _ _ _ _ _ => rfl
  have C_g_law_cell_at : Cal K mg "_law_cell_at" f_g_law_cell_at _ ["_law_script", "_law_k"] := ⟨PySem.W.mg_of X G a_g_law_cell_at, k_g_law_cell_at, b_g_law_cell_at⟩
  have F_g_law_numbers := fun_mk (st := sNum) l_g_law_numbers c_g_law_numbers k_g_law_numbers
  have b_g_law_numbers : Binds K _ ["_law_cells"] [] := F_g_law_numbers.b1 fun _ _ _ _ _ _ _ => rfl
  have C_g_law_numbers : Cal K mg "_law_numbers" f_g_law_numbers _ ["_law_cells"] := ⟨PySem.W.mg_of X G a_g_law_numbers, k_g_law_numbers, b_g_law_numbers⟩
  have F_g_law_by_lock := fun_mk (st := sLock) l_g_law_by_lock c_g_law_by_lock k_g_law_by_lock
  have b_g_law_by_lock : Binds K _ ["_law_holders", "_law_thread", "_law_pick", "_law_base"] [] := F_g_law_by_lock.b4 fun _ _ _ _ _ _ _ _ _ _ => rfl
  have C_g_law_by_lock : Cal K mg "_law_by_lock" f_g_law_by_lock _ ["_law_holders", "_law_thread", "_law_pick", "_law_base"] := ⟨PySem.W.mg_of X G a_g_law_by_lock, k_g_law_by_lock, b_g_law_by_lock⟩
  have F_g_law_deeds := fun_mk (st := sDeeds) l_g_law_deeds c_g_law_deeds k_g_law_deeds
  have b_g_law_deeds : Binds K _ ["_law_cells", "_law_many", "_law_base"] [] := F_g_law_deeds.b3 fun _ _ _ _ _ _ _ _ _ => rfl
  have C_g_law_deeds : Cal K mg "_law_deeds" f_g_law_deeds _ ["_law_cells", "_law_many", "_law_base"] := ⟨PySem.W.mg_of X G a_g_law_deeds, k_g_law_deeds, b_g_law_deeds⟩
  have F_g_law_last := fun_mk (st := s__law_last) l_g_law_last c_g_law_last k_g_law_last
  have b_g_law_last : Binds K _ ["_law_deeds_here", "_law_place"] [] := F_g_law_last.b2 fun _ _ _ _ _ _ _ _ => rfl
  have C_g_law_last : Cal K mg "_law_last" f_g_law_last _ ["_law_deeds_here", "_law_place"] := ⟨PySem.W.mg_of X G a_g_law_last, k_g_law_last, b_g_law_last⟩
  have F_g_law_first := fun_mk (st := s__law_first) l_g_law_first c_g_law_first k_g_law_first
  have b_g_law_first : Binds K _ ["_law_pairs"] [] := F_g_law_first.b1 fun _ _ _ _ _ _ _ => rfl
  have C_g_law_first : Cal K mg "_law_first" f_g_law_first _ ["_law_pairs"] := ⟨PySem.W.mg_of X G a_g_law_first, k_g_law_first, b_g_law_first⟩
  have F_g_law_alike := fun_mk (st := s__law_alike) l_g_law_alike c_g_law_alike k_g_law_alike
  have b_g_law_alike : Binds K _ ["_law_row", "_law_deeds_here", "_law_one", "_law_other"] [] := F_g_law_alike.b4 fun _ _ _ _ _ _ _ _ _ _ => rfl
  have C_g_law_alike : Cal K mg "_law_alike" f_g_law_alike _ ["_law_row", "_law_deeds_here", "_law_one", "_law_other"] := ⟨PySem.W.mg_of X G a_g_law_alike, k_g_law_alike, b_g_law_alike⟩
  have F_g_law := fun_mk (st := sLaw) l_g_law c_g_law k_g_law
  exact ⟨PySem.W.fnOf "law" "law" (defArgs sLaw) (defBody sLaw) (defScope sLaw) .none kV_g_law dc_g_law pm_g_law an_g_law cd_g_law ct_g_law, fun s v => .of_eq rfl, fun base _ _ bm =>
    have GI : FnOk l.prog w K mg base CX0 1 f_m_C_init _ ["self"] (spInit C) := ok_init F_m_C_init T
    have GF : FnOk l.prog w K mg base CX0 1 f_m_C_follow _ ["self", "thread", "word", "thing"] (spFol C) := ok_fol F_m_C_follow T
    have GO := ok_of (P := l.prog) (w := w) (base := base) F_g_fault_of_deed T F_g_fault_of_form C_g_fault_of_form F_m_C_fault_of_thread b_m_C_fault_of_thread ⟨a_m_C_fault_of_thread, i_m_C_fault_of_thread, k_m_C_fault_of_thread⟩ F_m_C_fault_of_word b_m_C_fault_of_word ⟨a_m_C_fault_of_word, i_m_C_fault_of_word, k_m_C_fault_of_word⟩
    have GFault := ok_fault (P := l.prog) (w := w) (base := base) F_g_fault T GI ⟨mk_C, a_m_C_init, i_m_C_init, kc_C⟩ b_m_C_init GO C_g_fault_of_deed GF b_m_C_follow ⟨a_m_C_follow, i_m_C_follow, k_m_C_follow⟩
    have GRow := ok_row (P := l.prog) (w := w) (base := base) F_m_CR_init T R GFault C_g_fault
    have MRow : Mk K CR f_m_CR_init := ⟨mk_CR, a_m_CR_init, i_m_CR_init, kc_CR⟩
    have GDeed := ok_deed (P := l.prog) (w := w) (base := base) F_m_CR_deed R
    have MDeed : Meth K CR "deed" f_m_CR_deed := ⟨a_m_CR_deed, i_m_CR_deed, k_m_CR_deed⟩
    have GRDs := ok_rds (P := l.prog) (w := w) (base := base) F_m_CR_deeds T R
    have MRDs : Meth K CR "deeds" f_m_CR_deeds := ⟨a_m_CR_deeds, i_m_CR_deeds, k_m_CR_deeds⟩
    have GJoin := ok_join (P := l.prog) (w := w) (base := base) F_g_joined Z
    have GClk := ok_clk (P := l.prog) (w := w) (base := base) F_g_clocks T R GJoin C_g_joined GRDs b_m_CR_deeds MRDs
    have GRch := ok_rch (P := l.prog) (w := w) (base := base) F_g_reaches R GDeed b_m_CR_deed MDeed
    have GCell := ok_cell (P := l.prog) (w := w) (base := base) F_g_law_cell_at T
    have GNum := ok_num (P := l.prog) (w := w) (base := base) F_g_law_numbers T
    have GLock := ok_lock (P := l.prog) (w := w) (base := base) F_g_law_by_lock T
    have GDeeds := ok_deeds (P := l.prog) (w := w) (base := base) F_g_law_deeds T GNum C_g_law_numbers GLock C_g_law_by_lock
    have GTch := ok_tch (P := l.prog) (w := w) (base := base) F_g_touches N
    have GOdds := ok_odds (P := l.prog) (w := w) (base := base) F_g_at_odds GTch C_g_touches
    have GPao := ok_pao (P := l.prog) (w := w) (base := base) F_g_pairs_at_odds T R GOdds C_g_at_odds GDeed b_m_CR_deed MDeed
    have GRaces := ok_races (P := l.prog) (w := w) (base := base) F_g_races GClk C_g_clocks GRch C_g_reaches GPao C_g_pairs_at_odds
    have GIsW := ok_isw (P := l.prog) (w := w) (base := base) F_g_is_weaving T R (PySem.W.mg_none_of X G z_sorted) GClk C_g_clocks GRch C_g_reaches
    have GWov := ok_wov (P := l.prog) (w := w) (base := base) F_g_woven R GIsW C_g_is_weaving GDeed b_m_CR_deed MDeed GRow b_m_CR_init MRow
    have GBes := ok_bes (P := l.prog) (w := w) (base := base) F_g_beside T R (PySem.W.mg_none_of X G z_min) (PySem.W.mg_none_of X G z_max) GRaces C_g_races GClk C_g_clocks GRch C_g_reaches
    have GSeen := ok_seen (P := l.prog) (w := w) (base := base) F_g_seen T R GRDs b_m_CR_deeds MRDs
    have GLast := ok_last (P := l.prog) (w := w) (base := base) F_g_law_last T (PySem.W.mg_none_of X G z_reversed)
    have GFst := ok_fst (P := l.prog) (w := w) (base := base) F_g_law_first
    have GFR := ok_fr (P := l.prog) (w := w) (base := base) l_g_first_race c_g_first_race h_tab bm (PySem.W.mg_none_of X G z_min) GRaces C_g_races
    have GAl := ok_al (P := l.prog) (w := w) (base := base) F_g_law_alike T R (PySem.W.mg_none_of X G z_max) (PySem.W.mg_none_of X G z_sorted) GBes C_g_beside GWov C_g_woven GSeen C_g_seen GLast C_g_law_last GClk C_g_clocks GRDs b_m_CR_deeds MRDs
    ok_law F_g_law T R GCell C_g_law_cell_at GDeeds C_g_law_deeds GRow b_m_CR_init MRow GRaces C_g_races GFR C_g_first_race GFst C_g_law_first GAl C_g_law_alike⟩
theorem walk {l : PySem.W.OpenLaw} {q : Program} {loose : List Str} {XP : (Str → Option Value) → Heap → Prop} {YP : World → Heap → Prop} {d : DefRec} {K : Params → PySem.W.Frag} {tc tP : Addr} (hn : l.most = some 63) (hdf : d.params.defaults = [])
    (hY : ∀ (w : World) (h : Heap), YP w h → (K w.params).In h ∧ h.get? tP = some (PySem.W.tabObj #[]))
    (hTK : ∀ w : World, (K w.params).lookup tP = none) (hTc : ∀ w : World, PySem.W.codeHdIn (K w.params) tc tP = true)
    (F : ∀ (w : World) (mg : Str → Option Value) (fa : Addr) (h : Heap), (K w.params).In h → h.Ns mainGlobals mg → mg d.name = some (.ref fa) →
      ∃ fd : FuncData, (∀ (s : Shared) (u : Value), BindsTo s fd ⟨[u], []⟩ [("_law_script", u)]) ∧ ∀ base : Heap, (K w.params).In base → base.Ns mainGlobals mg → BM mg base → FnOk l.prog w (K w.params) mg base CX0 9 fa fd ["_law_script"] (spLawT tP (K w.params))) :
    PySem.W.WalkO q loose XP YP l.row.toRowW d [] (fun f vs => PySem.call f vs) :=
  L2.walkT_of (n := 63) (k := 9) (x := "_law_script") (CX := fun _ => CX0) (sp := fun w => spLawT tP (K w.params)) hn (by decide) hdf ⟨rfl, by decide, by decide, rfl⟩ hY hTK hTc F (fun _ _ a ns hl hT hS => ⟨a, ns, rfl, hS, hl, hT, fun _ => rfl⟩) fun _ _ _ _ _ z => z
end K
theorem PySem.W.Fast.te17152051923509430467 : True := trivial
open PySem PySem.W PyProof.Rows
set_option maxRecDepth 100000 in
set_option maxHeartbeats 0 in
theorem PySem.Challenge.cw_racewise_k13_whole_first_race_sees_alike_holds : PySem.Challenge.rw_racewise_k13_whole_first_race_sees_alike.Holds := by
  w_on; o_law; k_head; (case hw => w_witness2)
  k_fill
  refine K.walk (l := PySem.Challenge.rw_racewise_k13_whole_first_race_sees_alike) (tc := 227) (tP := 223) rfl rfl (fun w h Y => ⟨PySem.W.km_in_of Y, PySem.W.km_tabs_of Y _ (by simp)⟩) ?TK ?TC ?F
  case TK => intro w; first | k_is | rfl | decide +kernel
  case TC => intro w; first | k_is | rfl | decide +kernel
  case F =>
    intro w mg fa h KX G hmg
    refine' K.all_mk (tc := 227) (tP := 223) KX G hmg ?a_C ?a_CR ?a_m_C_init ?i_m_C_init ?l_m_C_init ?c_m_C_init ?k_m_C_init ?a_m_C_fault_of_thread ?i_m_C_fault_of_thread ?l_m_C_fault_of_thread ?c_m_C_fault_of_thread ?k_m_C_fault_of_thread ?a_m_C_fault_of_word ?i_m_C_fault_of_word ?l_m_C_fault_of_word ?c_m_C_fault_of_word ?k_m_C_fault_of_word ?a_m_C_follow ?i_m_C_follow ?l_m_C_follow ?c_m_C_follow ?k_m_C_follow ?a_m_CR_init ?i_m_CR_init ?l_m_CR_init ?c_m_CR_init ?k_m_CR_init ?a_m_CR_deed ?i_m_CR_deed ?l_m_CR_deed ?c_m_CR_deed ?k_m_CR_deed ?a_m_CR_deeds ?i_m_CR_deeds ?l_m_CR_deeds ?c_m_CR_deeds ?k_m_CR_deeds ?a_g_joined ?l_g_joined ?c_g_joined ?k_g_joined ?a_g_clocks ?l_g_clocks ?c_g_clocks ?k_g_clocks ?a_g_reaches ?l_g_reaches ?c_g_reaches ?k_g_reaches ?a_g_fault_of_form ?l_g_fault_of_form ?c_g_fault_of_form ?k_g_fault_of_form ?a_g_fault_of_deed ?l_g_fault_of_deed ?c_g_fault_of_deed ?k_g_fault_of_deed ?a_g_fault ?l_g_fault ?c_g_fault ?k_g_fault ?a_g_touches ?l_g_touches ?c_g_touches ?k_g_touches ?a_g_at_odds ?l_g_at_odds ?c_g_at_odds ?k_g_at_odds ?a_g_pairs_at_odds ?l_g_pairs_at_odds ?c_g_pairs_at_odds ?k_g_pairs_at_odds ?a_g_races ?l_g_races ?c_g_races ?k_g_races ?a_g_beside ?l_g_beside ?c_g_beside ?k_g_beside ?a_g_seen ?l_g_seen ?c_g_seen ?k_g_seen ?a_g_first_race ?l_g_first_race ?c_g_first_race ?k_g_first_race ?a_g_is_weaving ?l_g_is_weaving ?c_g_is_weaving ?k_g_is_weaving ?a_g_woven ?l_g_woven ?c_g_woven ?k_g_woven ?a_g_law_cell_at ?l_g_law_cell_at ?c_g_law_cell_at ?k_g_law_cell_at ?a_g_law_numbers ?l_g_law_numbers ?c_g_law_numbers ?k_g_law_numbers ?a_g_law_by_lock ?l_g_law_by_lock ?c_g_law_by_lock ?k_g_law_by_lock ?a_g_law_deeds ?l_g_law_deeds ?c_g_law_deeds ?k_g_law_deeds ?a_g_law_last ?l_g_law_last ?c_g_law_last ?k_g_law_last ?a_g_law_first ?l_g_law_first ?c_g_law_first ?k_g_law_first ?a_g_law_alike ?l_g_law_alike ?c_g_law_alike ?k_g_law_alike ?a_g_law ?l_g_law ?c_g_law ?k_g_law ?n_aW ?l_aW ?n_aT ?l_aT ?n_aN ?l_aN ?n_MOST_THREADS ?n_MOST_DEEDS ?pg_C ?hd_C ?po_C ?sa_C ?mk_C ?kc_C ?nf_C_awake ?nf_C_gone ?nf_C_holders ?pg_CR ?hd_CR ?po_CR ?sa_CR ?mk_CR ?kc_CR ?nf_CR_many ?nf_CR_size ?nf_CR_all_deeds ?e_tab ?h_tab ?z_len ?z_enumerate ?z_range ?z_isinstance ?z_int ?z_bool ?z_str ?z_tuple ?z_list ?z_max ?z_min ?z_zip ?z_sorted ?z_reversed
    (case a_C => first | k_is | k_exc | kit_is | rfl | decide)
    (case a_CR => first | k_is | k_exc | kit_is | rfl | decide)
    (case a_m_C_init => first | k_is | k_exc | kit_is | rfl | decide)
    (case i_m_C_init => first | k_is | k_exc | kit_is | rfl | decide)
    (case l_m_C_init => first | k_is | k_exc | kit_is | rfl | decide)
    (case c_m_C_init => first | k_is | k_exc | kit_is | rfl | decide)
    (case k_m_C_init => first | k_is | k_exc | kit_is | rfl | decide)
    (case a_m_C_fault_of_thread => first | k_is | k_exc | kit_is | rfl | decide)
    (case i_m_C_fault_of_thread => first | k_is | k_exc | kit_is | rfl | decide)
    (case l_m_C_fault_of_thread => first | k_is | k_exc | kit_is | rfl | decide)
    (case c_m_C_fault_of_thread => first | k_is | k_exc | kit_is | rfl | decide)
    (case k_m_C_fault_of_thread => first | k_is | k_exc | kit_is | rfl | decide)
    (case a_m_C_fault_of_word => first | k_is | k_exc | kit_is | rfl | decide)
    (case i_m_C_fault_of_word => first | k_is | k_exc | kit_is | rfl | decide)
    (case l_m_C_fault_of_word => first | k_is | k_exc | kit_is | rfl | decide)
    (case c_m_C_fault_of_word => first | k_is | k_exc | kit_is | rfl | decide)
    (case k_m_C_fault_of_word => first | k_is | k_exc | kit_is | rfl | decide)
    (case a_m_C_follow => first | k_is | k_exc | kit_is | rfl | decide)
    (case i_m_C_follow => first | k_is | k_exc | kit_is | rfl | decide)
    (case l_m_C_follow => first | k_is | k_exc | kit_is | rfl | decide)
    (case c_m_C_follow => first | k_is | k_exc | kit_is | rfl | decide)
    (case k_m_C_follow => first | k_is | k_exc | kit_is | rfl | decide)
    (case a_m_CR_init => first | k_is | k_exc | kit_is | rfl | decide)
    (case i_m_CR_init => first | k_is | k_exc | kit_is | rfl | decide)
    (case l_m_CR_init => first | k_is | k_exc | kit_is | rfl | decide)
    (case c_m_CR_init => first | k_is | k_exc | kit_is | rfl | decide)
    (case k_m_CR_init => first | k_is | k_exc | kit_is | rfl | decide)
    (case a_m_CR_deed => first | k_is | k_exc | kit_is | rfl | decide)
    (case i_m_CR_deed => first | k_is | k_exc | kit_is | rfl | decide)
    (case l_m_CR_deed => first | k_is | k_exc | kit_is | rfl | decide)
    (case c_m_CR_deed => first | k_is | k_exc | kit_is | rfl | decide)
    (case k_m_CR_deed => first | k_is | k_exc | kit_is | rfl | decide)
    (case a_m_CR_deeds => first | k_is | k_exc | kit_is | rfl | decide)
    (case i_m_CR_deeds => first | k_is | k_exc | kit_is | rfl | decide)
    (case l_m_CR_deeds => first | k_is | k_exc | kit_is | rfl | decide)
    (case c_m_CR_deeds => first | k_is | k_exc | kit_is | rfl | decide)
    (case k_m_CR_deeds => first | k_is | k_exc | kit_is | rfl | decide)
    (case a_g_joined => first | k_is | k_exc | kit_is | rfl | decide)
    (case l_g_joined => first | k_is | k_exc | kit_is | rfl | decide)
    (case c_g_joined => first | k_is | k_exc | kit_is | rfl | decide)
    (case k_g_joined => first | k_is | k_exc | kit_is | rfl | decide)
    (case a_g_clocks => first | k_is | k_exc | kit_is | rfl | decide)
    (case l_g_clocks => first | k_is | k_exc | kit_is | rfl | decide)
    (case c_g_clocks => first | k_is | k_exc | kit_is | rfl | decide)
    (case k_g_clocks => first | k_is | k_exc | kit_is | rfl | decide)
    (case a_g_reaches => first | k_is | k_exc | kit_is | rfl | decide)
    (case l_g_reaches => first | k_is | k_exc | kit_is | rfl | decide)
    (case c_g_reaches => first | k_is | k_exc | kit_is | rfl | decide)
    (case k_g_reaches => first | k_is | k_exc | kit_is | rfl | decide)
    (case a_g_fault_of_form => first | k_is | k_exc | kit_is | rfl | decide)
    (case l_g_fault_of_form => first | k_is | k_exc | kit_is | rfl | decide)
    (case c_g_fault_of_form => first | k_is | k_exc | kit_is | rfl | decide)
    (case k_g_fault_of_form => first | k_is | k_exc | kit_is | rfl | decide)
    (case a_g_fault_of_deed => first | k_is | k_exc | kit_is | rfl | decide)
    (case l_g_fault_of_deed => first | k_is | k_exc | kit_is | rfl | decide)
    (case c_g_fault_of_deed => first | k_is | k_exc | kit_is | rfl | decide)
    (case k_g_fault_of_deed => first | k_is | k_exc | kit_is | rfl | decide)
    (case a_g_fault => first | k_is | k_exc | kit_is | rfl | decide)
    (case l_g_fault => first | k_is | k_exc | kit_is | rfl | decide)
    (case c_g_fault => first | k_is | k_exc | kit_is | rfl | decide)
    (case k_g_fault => first | k_is | k_exc | kit_is | rfl | decide)
    (case a_g_touches => first | k_is | k_exc | kit_is | rfl | decide)
    (case l_g_touches => first | k_is | k_exc | kit_is | rfl | decide)
    (case c_g_touches => first | k_is | k_exc | kit_is | rfl | decide)
    (case k_g_touches => first | k_is | k_exc | kit_is | rfl | decide)
    (case a_g_at_odds => first | k_is | k_exc | kit_is | rfl | decide)
    (case l_g_at_odds => first | k_is | k_exc | kit_is | rfl | decide)
    (case c_g_at_odds => first | k_is | k_exc | kit_is | rfl | decide)
    (case k_g_at_odds => first | k_is | k_exc | kit_is | rfl | decide)
    (case a_g_pairs_at_odds => first | k_is | k_exc | kit_is | rfl | decide)
    (case l_g_pairs_at_odds => first | k_is | k_exc | kit_is | rfl | decide)
    (case c_g_pairs_at_odds => first | k_is | k_exc | kit_is | rfl | decide)
    (case k_g_pairs_at_odds => first | k_is | k_exc | kit_is | rfl | decide)
    (case a_g_races => first | k_is | k_exc | kit_is | rfl | decide)
    (case l_g_races => first | k_is | k_exc | kit_is | rfl | decide)
    (case c_g_races => first | k_is | k_exc | kit_is | rfl | decide)
    (case k_g_races => first | k_is | k_exc | kit_is | rfl | decide)
    (case a_g_beside => first | k_is | k_exc | kit_is | rfl | decide)
    (case l_g_beside => first | k_is | k_exc | kit_is | rfl | decide)
    (case c_g_beside => first | k_is | k_exc | kit_is | rfl | decide)
    (case k_g_beside => first | k_is | k_exc | kit_is | rfl | decide)
    (case a_g_seen => first | k_is | k_exc | kit_is | rfl | decide)
    (case l_g_seen => first | k_is | k_exc | kit_is | rfl | decide)
    (case c_g_seen => first | k_is | k_exc | kit_is | rfl | decide)
    (case k_g_seen => first | k_is | k_exc | kit_is | rfl | decide)
    (case a_g_first_race => first | k_is | k_exc | kit_is | rfl | decide)
    (case l_g_first_race => first | k_is | k_exc | kit_is | rfl | decide)
    (case c_g_first_race => first | k_is | k_exc | kit_is | rfl | decide)
    (case k_g_first_race => first | k_is | k_exc | kit_is | rfl | decide)
    (case a_g_is_weaving => first | k_is | k_exc | kit_is | rfl | decide)
    (case l_g_is_weaving => first | k_is | k_exc | kit_is | rfl | decide)
    (case c_g_is_weaving => first | k_is | k_exc | kit_is | rfl | decide)
    (case k_g_is_weaving => first | k_is | k_exc | kit_is | rfl | decide)
    (case a_g_woven => first | k_is | k_exc | kit_is | rfl | decide)
    (case l_g_woven => first | k_is | k_exc | kit_is | rfl | decide)
    (case c_g_woven => first | k_is | k_exc | kit_is | rfl | decide)
    (case k_g_woven => first | k_is | k_exc | kit_is | rfl | decide)
    (case a_g_law_cell_at => first | k_is | k_exc | kit_is | rfl | decide)
    (case l_g_law_cell_at => first | k_is | k_exc | kit_is | rfl | decide)
    (case c_g_law_cell_at => first | k_is | k_exc | kit_is | rfl | decide)
    (case k_g_law_cell_at => first | k_is | k_exc | kit_is | rfl | decide)
    (case a_g_law_numbers => first | k_is | k_exc | kit_is | rfl | decide)
    (case l_g_law_numbers => first | k_is | k_exc | kit_is | rfl | decide)
    (case c_g_law_numbers => first | k_is | k_exc | kit_is | rfl | decide)
    (case k_g_law_numbers => first | k_is | k_exc | kit_is | rfl | decide)
    (case a_g_law_by_lock => first | k_is | k_exc | kit_is | rfl | decide)
    (case l_g_law_by_lock => first | k_is | k_exc | kit_is | rfl | decide)
    (case c_g_law_by_lock => first | k_is | k_exc | kit_is | rfl | decide)
    (case k_g_law_by_lock => first | k_is | k_exc | kit_is | rfl | decide)
    (case a_g_law_deeds => first | k_is | k_exc | kit_is | rfl | decide)
    (case l_g_law_deeds => first | k_is | k_exc | kit_is | rfl | decide)
    (case c_g_law_deeds => first | k_is | k_exc | kit_is | rfl | decide)
    (case k_g_law_deeds => first | k_is | k_exc | kit_is | rfl | decide)
    (case a_g_law_last => first | k_is | k_exc | kit_is | rfl | decide)
    (case l_g_law_last => first | k_is | k_exc | kit_is | rfl | decide)
    (case c_g_law_last => first | k_is | k_exc | kit_is | rfl | decide)
    (case k_g_law_last => first | k_is | k_exc | kit_is | rfl | decide)
    (case a_g_law_first => first | k_is | k_exc | kit_is | rfl | decide)
    (case l_g_law_first => first | k_is | k_exc | kit_is | rfl | decide)
    (case c_g_law_first => first | k_is | k_exc | kit_is | rfl | decide)
    (case k_g_law_first => first | k_is | k_exc | kit_is | rfl | decide)
    (case a_g_law_alike => first | k_is | k_exc | kit_is | rfl | decide)
    (case l_g_law_alike => first | k_is | k_exc | kit_is | rfl | decide)
    (case c_g_law_alike => first | k_is | k_exc | kit_is | rfl | decide)
    (case k_g_law_alike => first | k_is | k_exc | kit_is | rfl | decide)
    (case a_g_law => first | k_is | k_exc | kit_is | rfl | decide)
    (case l_g_law => first | k_is | k_exc | kit_is | rfl | decide)
    (case c_g_law => first | k_is | k_exc | kit_is | rfl | decide)
    (case k_g_law => first | k_is | k_exc | kit_is | rfl | decide)
    (case n_aW => first | k_is | k_exc | kit_is | rfl | decide)
    (case l_aW => first | k_is | k_exc | kit_is | rfl | decide)
    (case n_aT => first | k_is | k_exc | kit_is | rfl | decide)
    (case l_aT => first | k_is | k_exc | kit_is | rfl | decide)
    (case n_aN => first | k_is | k_exc | kit_is | rfl | decide)
    (case l_aN => first | k_is | k_exc | kit_is | rfl | decide)
    (case n_MOST_THREADS => first | k_is | k_exc | kit_is | rfl | decide)
    (case n_MOST_DEEDS => first | k_is | k_exc | kit_is | rfl | decide)
    (case pg_C => first | k_is | k_exc | kit_is | rfl | decide)
    (case hd_C => first | k_is | k_exc | kit_is | rfl | decide)
    (case po_C => first | k_is | k_exc | kit_is | rfl | decide)
    (case sa_C => first | k_is | k_exc | kit_is | rfl | decide)
    (case mk_C => first | k_is | k_exc | kit_is | rfl | decide)
    (case kc_C => first | k_is | k_exc | kit_is | rfl | decide)
    (case nf_C_awake => first | k_is | k_exc | kit_is | rfl | decide)
    (case nf_C_gone => first | k_is | k_exc | kit_is | rfl | decide)
    (case nf_C_holders => first | k_is | k_exc | kit_is | rfl | decide)
    (case pg_CR => first | k_is | k_exc | kit_is | rfl | decide)
    (case hd_CR => first | k_is | k_exc | kit_is | rfl | decide)
    (case po_CR => first | k_is | k_exc | kit_is | rfl | decide)
    (case sa_CR => first | k_is | k_exc | kit_is | rfl | decide)
    (case mk_CR => first | k_is | k_exc | kit_is | rfl | decide)
    (case kc_CR => first | k_is | k_exc | kit_is | rfl | decide)
    (case nf_CR_many => first | k_is | k_exc | kit_is | rfl | decide)
    (case nf_CR_size => first | k_is | k_exc | kit_is | rfl | decide)
    (case nf_CR_all_deeds => first | k_is | k_exc | kit_is | rfl | decide)
    (case e_tab => first | k_is | k_exc | kit_is | rfl | decide)
    (case h_tab => first | k_is | k_exc | kit_is | rfl | decide)
    (case z_len => first | k_is | k_exc | kit_is | rfl | decide)
    (case z_enumerate => first | k_is | k_exc | kit_is | rfl | decide)
    (case z_range => first | k_is | k_exc | kit_is | rfl | decide)
    (case z_isinstance => first | k_is | k_exc | kit_is | rfl | decide)
    (case z_int => first | k_is | k_exc | kit_is | rfl | decide)
    (case z_bool => first | k_is | k_exc | kit_is | rfl | decide)
    (case z_str => first | k_is | k_exc | kit_is | rfl | decide)
    (case z_tuple => first | k_is | k_exc | kit_is | rfl | decide)
    (case z_list => first | k_is | k_exc | kit_is | rfl | decide)
    (case z_max => first | k_is | k_exc | kit_is | rfl | decide)
    (case z_min => first | k_is | k_exc | kit_is | rfl | decide)
    (case z_zip => first | k_is | k_exc | kit_is | rfl | decide)
    (case z_sorted => first | k_is | k_exc | kit_is | rfl | decide)
    (case z_reversed => first | k_is | k_exc | kit_is | rfl | decide)
#print axioms PySem.Challenge.cw_racewise_k13_whole_first_race_sees_alike_holds
