import PyProof.Rows.All
import Wide.All
import OpenK.AllK
import Wide.FinOn
import Lean
import PyProof.EqAt
import PyProof.EqKinds
import PyProof.TupleCall
import PyProof.Walks
import PySem.Challenge.RW_racewise_k24_moves_refused
import PyProof.P3Eq
import PyProof.Rows.TupAdd
import PyProof.ListMulRoad
import KE.KUnpack
import PyProof.Rows.StrDigitsNeg
set_option Elab.async false
set_option linter.all false
set_option maxRecDepth 100000
namespace L2
open PySem PySem.Spec PyProof.Rows
abbrev Key := Sum Int Str
def keyIs : Key → Value → Bool
  | .inl k, v => Value.isInt k v
  | .inr x, v => Value.isStrOf x v
def keyH (w : World) : Key → Int
  | .inl k => hashInt k
  | .inr x => hashStr w x
theorem keyIs_shape : ∀ {k : Key} {v : Value}, keyIs k v = true → (∃ i t, k = Sum.inl i ∧ v = Value.int i t) ∨ (∃ x t, k = Sum.inr x ∧ v = Value.str x t)
  | .inl i, v, h => by
    obtain ⟨t, e⟩ := Value.isInt_shape (k := i) (v := v) h
    exact .inl ⟨i, t, rfl, e⟩
  | .inr x, v, h => by
    obtain ⟨t, e⟩ := Value.isStrOf_shape (x := x) (v := v) h
    exact .inr ⟨x, t, rfl, e⟩
theorem keyIs_int (i : Int) (t : Tok) : keyIs (.inl i) (.int i t) = true := by simp [keyIs, Value.isInt]
theorem keyIs_str (x : Str) (t : Tok) : keyIs (.inr x) (.str x t) = true := by simp [keyIs, Value.isStrOf]
theorem key_ll (a b : Int) : decide ((Sum.inl a : Key) = Sum.inl b) = (a == b) := by
  by_cases e : a = b
  · subst e; simp
  · have h : ¬ (Sum.inl a : Key) = Sum.inl b := fun q => e (Sum.inl.inj q)
    rw [decide_eq_false h]
    exact (beq_eq_false_iff_ne.mpr e).symm
theorem key_rr (a b : Str) : decide ((Sum.inr a : Key) = Sum.inr b) = decide (a = b) := by
  by_cases e : a = b
  · subst e; simp
  · have h : ¬ (Sum.inr a : Key) = Sum.inr b := fun q => e (Sum.inr.inj q)
    rw [decide_eq_false h, decide_eq_false e]
theorem key_lr (a : Int) (b : Str) : decide ((Sum.inl a : Key) = Sum.inr b) = false := decide_eq_false (fun q => nomatch q)
theorem key_rl (a : Str) (b : Int) : decide ((Sum.inr a : Key) = Sum.inl b) = false := decide_eq_false (fun q => nomatch q)
def mixKind (prog : Program) (w : World) : PySem.KeyKind prog w Key where
  is := keyIs
  hash := keyH w
  inj := fun v a b ha hb => by
    rcases keyIs_shape ha with ⟨i, t, rfl, rfl⟩ | ⟨x, t, rfl, rfl⟩
    · rcases keyIs_shape hb with ⟨j, u, rfl, e⟩ | ⟨y, u, rfl, e⟩
      · injection e with e1 _; rw [e1]
      · exact nomatch e
    · rcases keyIs_shape hb with ⟨j, u, rfl, e⟩ | ⟨y, u, rfl, e⟩
      · exact nomatch e
      · injection e with e1 _; rw [e1]
  byValue := fun k v h => by
    rcases keyIs_shape h with ⟨i, t, rfl, rfl⟩ | ⟨x, t, rfl, rfl⟩ <;> rfl
  pyHash := fun hv h => by
    rcases keyIs_shape hv with ⟨i, t, rfl, rfl⟩ | ⟨x, t, rfl, rfl⟩
    · exact wpAny_pyHash_int h
    · exact wpAny_pyHash_str h
  eqBool := fun hu hv h => by
    rcases keyIs_shape hu with ⟨i, t, rfl, rfl⟩ | ⟨x, t, rfl, rfl⟩
    · rcases keyIs_shape hv with ⟨j, u, rfl, rfl⟩ | ⟨y, u, rfl, rfl⟩
      · rw [key_ll] at h; exact wpAny_eqBool_int h
      · rw [key_lr] at h; exact SeqAt.EqAt.int_str i t y u _ _ _ _ h
    · rcases keyIs_shape hv with ⟨j, u, rfl, rfl⟩ | ⟨y, u, rfl, rfl⟩
      · rw [key_rl] at h; exact SeqAt.EqAt.str_int x t j u _ _ _ _ h
      · rw [key_rr] at h; exact wpAny_eqBool_str h
  «strs» := fun k x t v h => by
    rcases keyIs_shape h with ⟨i, u, rfl, e⟩ | ⟨y, u, rfl, e⟩
    · exact nomatch e
    · injection e with e1 _
      subst e1
      cases v <;> rfl
theorem mixKind_int (prog : Program) (w : World) (i : Int) (t : Tok) : (mixKind prog w).is (.inl i) (.int i t) = true := keyIs_int i t
theorem mixKind_str (prog : Program) (w : World) (x : Str) (t : Tok) : (mixKind prog w).is (.inr x) (.str x t) = true := keyIs_str x t
end L2
namespace L2
open PySem PySem.Spec PyProof.Rows
inductive V where
  | non | bl (b : Bool) | int (i : Int) | str (x : Str) | byt (b : Array UInt8) | flt (b : UInt64) | ref (a : Addr) | ty (n : String)
  deriving DecidableEq
def RelV : V → Value → Prop
  | .non, u => u = Value.none
  | .bl b, u => u = Value.bool b
  | .int i, u => ∃ t, u = Value.int i t
  | .str x, u => ∃ t, u = Value.str x t
  | .byt b, u => ∃ t, u = Value.bytes b t
  | .flt b, u => ∃ t, u = Value.float b t
  | .ref a, u => u = Value.ref a
  | .ty n, u => u = Value.type n
abbrev Vals : List V → List Value → Prop := Paired RelV
theorem Vals.length {xs : List V} {us : List Value} (r : Vals xs us) : xs.length = us.length := Paired.length r
theorem Vals.get : ∀ {xs : List V} {us : List Value} {i : Nat} {x : V}, Vals xs us → xs[i]? = some x → ∃ u, us[i]? = some u ∧ RelV x u
  | _, _, _, _, .nil, e => by simp at e
  | _, _, 0, _, .cons r _, e => by simp at e; subst e; exact ⟨_, rfl, r⟩
  | _, _, i + 1, x, .cons _ t, e => by
    obtain ⟨u, h1, h2⟩ := Vals.get (i := i) (x := x) t (by simpa using e)
    exact ⟨u, by simpa using h1, h2⟩
theorem Vals.append : ∀ {xs ys : List V} {us ws : List Value}, Vals xs us → Vals ys ws → Vals (xs ++ ys) (us ++ ws)
  | _, _, _, _, .nil, s => s
  | _, _, _, _, .cons r t, s => .cons r (Vals.append t s)
theorem Vals.take : ∀ {xs : List V} {us : List Value} (n : Nat), Vals xs us → Vals (xs.take n) (us.take n)
  | _, _, 0, _ => .nil
  | _, _, _ + 1, .nil => .nil
  | _, _, n + 1, .cons r t => .cons r (Vals.take n t)
theorem Vals.drop : ∀ {xs : List V} {us : List Value} (n : Nat), Vals xs us → Vals (xs.drop n) (us.drop n)
  | _, _, 0, r => r
  | _, _, _ + 1, .nil => .nil
  | _, _, n + 1, .cons _ t => Vals.drop n t
def RelO : Option V → Option Value → Prop
  | some v, some u => RelV v u
  | none, none => True
  | _, _ => False
def KV {κ : Type} : List (κ × V) → List (κ × Value) → Prop := Paired fun (p : κ × V) (q : κ × Value) => p.1 = q.1 ∧ RelV p.2 q.2
def kV : Key → V
  | .inl i => .int i
  | .inr x => .str x
inductive HO where
  /-- a list -/
  | lst (xs : List V)
  /-- a tuple (never changes) -/
  | tup (xs : List V)
  /-- a dict whose keys are ints and texts; one whose keys are tuples of ints and texts (the empty one is both) -/
  | dK (kvs : List (Key × V)) | dT (kvs : List (List Key × V))
  /-- a set of ints: its members, its size -/
  | set (S : Int → Bool) (n : Nat)
  /-- an instance of the class at C, its dict at dx, its attributes -/
  | ins (C dx : Addr) (fs : List (Str × V))
  /-- the dict of the instance at x -/
  | own (x : Addr)
  /-- the dict of an exception -/
  | xd (fs : List (Str × V))
  /-- a bound method, f of x -/
  | met (f x : Addr)
  /-- a range object lo, lo + 1, .. below hi -/
  | rng (lo hi : Int)
  /-- a thing that is known to the object (the script; a dict while a loop walks it): read, never written while it is so -/
  | frz (o : Obj) (u : HO)
  /-- a code object's table -/
  | tbl (ps : Array Value)
  /-- any other thing, by what is true of its one object (a def of one's own: SetO a S n := HO.ext fun h => ..) -/
  | ext (φ : Heap → Prop)
abbrev Hp := Addr → Option HO
def upd (H : Hp) (a : Addr) (o : HO) : Hp := fun b => if b = a then some o else H b
theorem upd_same {H : Hp} {a : Addr} {o : HO} : upd H a o a = some o := by unfold upd; rw [if_pos rfl]
theorem upd_ne {H : Hp} {a b : Addr} {o : HO} (h : b ≠ a) : upd H a o b = H b := by unfold upd; rw [if_neg h]
theorem upd_upd {H : Hp} {a : Addr} {o u : HO} : upd (upd H a o) a u = upd H a u := by
  funext b; unfold upd; split <;> rfl
theorem ne_of {H : Hp} {a b : Addr} {o u : HO} (h : H a = some o) (h' : H b = some u) (d : o ≠ u) : a ≠ b := by
  intro e; subst e; rw [h] at h'; exact d (Option.some.inj h')
theorem ne_of_none {H : Hp} {a b : Addr} {o : HO} (h : H a = some o) (h' : H b = none) : a ≠ b := by
  intro e; subst e; rw [h] at h'; cases h'
section
variable (P : Program) (w : World)
def ObjOk (H : Hp) (h : Heap) (a : Addr) : HO → Prop
  | .lst xs => xs.length ≤ sizeLine ∧ ∃ (its : List Value) (n : Nat), Vals xs its ∧ h.get? a = some { cls := .type "list", data := .seq its.toArray n }
  | .tup xs => xs.length ≤ sizeLine ∧ ∃ its : List Value, Vals xs its ∧ IsTup h a its.toArray
  | .dK kvs => kvs.length ≤ sizeLine ∧ (a == sysModules) = false ∧ ∃ vs, KV kvs vs ∧ h.DictOf (mixKind P w) a vs
  | .dT kvs => kvs.length ≤ sizeLine ∧ (a == sysModules) = false ∧ ∃ xs : List (List Key × Addr × Value),
      Paired (fun (p : List Key × V) (q : List Key × Addr × Value) => p.1 = q.1 ∧ H q.2.1 = some (.tup (p.1.map kV)) ∧ RelV p.2 q.2.2) kvs xs ∧
      ∃ o es ep, h.get? a = some o ∧ o.ExactDict ∧ o.data = .dict es ep ∧ es.toList = xs.map (entryOfKey (tupleKind (mixKind P w))) ∧ (xs.map (·.1)).Nodup
  | .set S n => h.SetOf (intKind P w) a S n
  | .ins C dx fs => H dx = some (.own a) ∧ fs.length ≤ 1000 ∧ dx ≠ a ∧ h.get? a = some (PySem.W.instObj C dx) ∧
      ∃ mA, h.Ns1 dx mA ∧ (∀ f, RelO (fs.lookup f) (mA f)) ∧ PySem.Within mA (fs.map (·.1))
  | .own _ => ∃ o, h.get? a = some o
  | .xd fs => ∃ mA, h.Ns1 a mA ∧ ∀ f, RelO (fs.lookup f) (mA f)
  | .rng lo hi => ∃ t u v, h.get? a = some { cls := .type "range", data := .fields #[.int lo t, .int hi u, .int 1 v] }
  | .frz o u => h.get? a = some o ∧ ObjOk H h a u
  | .tbl ps => h.get? a = some { cls := .none, data := .fields ps }
  | .met f x => h.get? a = some (PySem.W.methodObj (.ref f) (.ref x))
  | .ext φ => φ h ∧ (∃ o, h.get? a = some o) ∧ ∀ h1 h2 : Heap, φ h1 → (∀ o, h1.get? a = some o → h2.get? a = some o) → φ h2
def HOk (H : Hp) (h : Heap) : Prop := ∀ a o, H a = some o → ObjOk P w H h a o
end
section
variable {P : Program} {w : World} {H H' : Hp} {h h' : Heap} {a : Addr} {o : HO}
theorem ObjOk.lt (x : ObjOk P w H h a o) : a < h.objs.size := by
  cases o with
  | lst xs => obtain ⟨_, _, _, _, e⟩ := x; exact Heap.lt_size e
  | tup xs => obtain ⟨_, _, _, p⟩ := x; exact p.lt
  | dK kvs => obtain ⟨_, _, _, _, o, _, _, e, _⟩ := x; exact Heap.lt_size e
  | dT kvs => obtain ⟨_, _, _, _, o, _, _, e, _⟩ := x; exact Heap.lt_size e
  | set S n => obtain ⟨o, _, _, _, e, _⟩ := x; exact Heap.lt_size e
  | ins C dx fs => obtain ⟨_, _, _, e, _⟩ := x; exact Heap.lt_size e
  | own y => obtain ⟨_, e⟩ := x; exact Heap.lt_size e
  | xd fs => obtain ⟨_, ⟨_, _, _, e, _⟩, _⟩ := x; exact Heap.lt_size e
  | rng lo hi => obtain ⟨_, _, _, e⟩ := x; exact Heap.lt_size e
  | frz ob u => obtain ⟨e, _⟩ := x; exact Heap.lt_size e
  | tbl ps => exact Heap.lt_size (show h.get? a = some _ from x)
  | met f y => exact Heap.lt_size (show h.get? a = some _ from x)
  | ext φ => obtain ⟨_, ⟨_, e⟩, _⟩ := x; exact Heap.lt_size e
theorem Paired.mapP {α β : Type} {F G : α → β → Prop} : ∀ {l₁ : List α} {l₂ : List β}, Paired F l₁ l₂ → (∀ a b, F a b → G a b) → Paired G l₁ l₂
  | _, _, .nil, _ => .nil
  | _, _, .cons r t, f => .cons (f _ _ r) (Paired.mapP t f)
theorem ObjOk.stay (x : ObjOk P w H h a o) (k : ∀ b u, (b = a ∨ H b = some (.own a)) → h.get? b = some u → h'.get? b = some u)
    (ho : ∀ b, H b = some (.own a) → H' b = some (.own a)) (ht : ∀ b xs, H b = some (.tup xs) → H' b = some (.tup xs)) : ObjOk P w H' h' a o := by
  induction o with
  | lst xs => obtain ⟨z, its, n, r, e⟩ := x; exact ⟨z, its, n, r, k _ _ (.inl rfl) e⟩
  | tup xs => obtain ⟨z, its, r, ob, e, c⟩ := x; exact ⟨z, its, r, ob, k _ _ (.inl rfl) e, c⟩
  | dK kvs => obtain ⟨z, y, vs, r, ob, es, ep, e, c⟩ := x; exact ⟨z, y, vs, r, ob, es, ep, k _ _ (.inl rfl) e, c⟩
  | dT kvs =>
    obtain ⟨z, y, xs, r, ob, es, ep, e, c⟩ := x
    exact ⟨z, y, xs, Paired.mapP r fun p q z => ⟨z.1, ht _ _ z.2.1, z.2.2⟩, ob, es, ep, k _ _ (.inl rfl) e, c⟩
  | set S n => obtain ⟨ob, es, ep, t, e, c⟩ := x; exact ⟨ob, es, ep, t, k _ _ (.inl rfl) e, c⟩
  | ins C dx fs =>
    obtain ⟨d, z, ne, e, mA, ⟨od, es, ep, e2, c⟩, r⟩ := x
    exact ⟨ho _ d, z, ne, k _ _ (.inl rfl) e, mA, ⟨od, es, ep, k _ _ (.inr d) e2, c⟩, r⟩
  | own y => obtain ⟨ob, e⟩ := x; exact ⟨ob, k _ _ (.inl rfl) e⟩
  | xd fs => obtain ⟨mA, ⟨od, es, ep, e, c⟩, r⟩ := x; exact ⟨mA, ⟨od, es, ep, k _ _ (.inl rfl) e, c⟩, r⟩
  | rng lo hi => obtain ⟨t, u, v, e⟩ := x; exact ⟨t, u, v, k _ _ (.inl rfl) e⟩
  | frz ob u ih => obtain ⟨e, q⟩ := x; exact ⟨k _ _ (.inl rfl) e, ih q⟩
  | tbl ps =>
    have e : h.get? a = some { cls := .none, data := .fields ps } := x
    show h'.get? a = some { cls := .none, data := .fields ps }
    exact k a _ (.inl rfl) e
  | met f y =>
    have e : h.get? a = some (PySem.W.methodObj (.ref f) (.ref y)) := x
    show h'.get? a = some (PySem.W.methodObj (.ref f) (.ref y))
    exact k a _ (.inl rfl) e
  | ext φ => obtain ⟨p, ⟨o, e⟩, st⟩ := x; exact ⟨st _ _ p fun o q => k _ _ (.inl rfl) q, ⟨o, k _ _ (.inl rfl) e⟩, st⟩
theorem HOk.lt (x : HOk P w H h) (e : H a = some o) : a < h.objs.size := (x a o e).lt
theorem HOk.fresh (x : HOk P w H h) (e : h.objs.size ≤ a) : H a = none := by
  cases q : H a with
  | none => rfl
  | some u => exact absurd (Nat.lt_of_lt_of_le (x.lt q) e) (Nat.lt_irrefl _)
theorem HOk.kept (x : HOk P w H h) (k : ∀ b u, h.get? b = some u → h'.get? b = some u) : HOk P w H h' := fun a o e =>
  (x a o e).stay (fun b u _ q => k b u q) (fun _ q => q) fun _ _ q => q
theorem HOk.laid (x : HOk P w H h) (k : ∀ b u, h.get? b = some u → h'.get? b = some u) (hp : h.objs.size ≤ a) (new : ObjOk P w (upd H a o) h' a o) : HOk P w (upd H a o) h' := fun b u e => by
  have hn := x.fresh hp
  by_cases hb : b = a
  · subst hb; rw [upd_same] at e; cases e; exact new
  · rw [upd_ne hb] at e
    exact (x b u e).stay (fun c v _ q => k c v q) (fun c q => by rw [upd_ne (ne_of_none q hn)]; exact q) fun c xs q => by rw [upd_ne (ne_of_none q hn)]; exact q
end
def Rd (H : Hp) (a : Addr) (u : HO) : Prop := H a = some u ∨ ∃ o, H a = some (.frz o u)
theorem Rd.ok {P : Program} {w : World} {H : Hp} {h : Heap} {a : Addr} {u : HO} (r : Rd H a u) (x : HOk P w H h) : ObjOk P w H h a u := by
  rcases r with r | ⟨o, r⟩
  · exact x a u r
  · obtain ⟨_, q⟩ := x a _ r
    exact q
def Mut : Option HO → Prop
  | some (.lst _) => True
  | some (.dK _) => True
  | some (.dT _) => True
  | some (.set _ _) => True
  | some (.ins _ _ _) => True
  | some (.ext _) => True
  | _ => False
section
variable {P : Program} {w : World} {H : Hp} {h h' : Heap} {x e : Addr} {o' : HO}
theorem HOk.write (ok : HOk P w H h) (mu : Mut (H x)) (he : e = x ∨ H e = some (.own x)) (k : ∀ b u, b ≠ e → h.get? b = some u → h'.get? b = some u) (heo : ∃ u, h'.get? e = some u)
    (new : ObjOk P w (upd H x o') h' x o') : HOk P w (upd H x o') h' := fun b u q => by
  have nown : ∀ c y, H c = some (.own y) → c ≠ x := fun c y r z => by subst z; rw [r] at mu; exact mu
  have ntup : ∀ c xs, H c = some (.tup xs) → c ≠ x := fun c xs r z => by subst z; rw [r] at mu; exact mu
  by_cases hb : b = x
  · subst hb; rw [upd_same] at q; cases q; exact new
  · rw [upd_ne hb] at q
    by_cases hbe : b = e
    · have q' : H b = some (.own x) := by
        rcases he with z | z
        · exact absurd (hbe.trans z) hb
        · rw [hbe]; exact z
      rw [q] at q'; cases q'
      obtain ⟨v, hv⟩ := heo
      exact ⟨v, by rw [hbe]; exact hv⟩
    · refine (ok b u q).stay (fun c v hc r => k c v ?_ r) (fun c r => by rw [upd_ne (nown c b r)]; exact r) fun c xs r => by rw [upd_ne (ntup c xs r)]; exact r
      rcases hc with rfl | hc
      · exact hbe
      · rintro rfl
        rcases he with z | z
        · exact nown c b hc z
        · rw [hc] at z; cases z; exact hb rfl
end
structure Un (fs ex : List Addr) (H H' : Hp) (h h' : Heap) : Prop where
  keep : ∀ b o, h.get? b = some o → H b = none → b ∉ fs → b ∉ ex → h'.get? b = some o
  slot : ∀ b o, h.get? b = some o → H b = none → b ∈ fs → b ∉ ex → ∃ sl, h'.get? b = some { o with slots := sl }
  free : ∀ b o, h.get? b = some o → H b = none → b ∉ ex → H' b = none
  there : ∀ b o, h.get? b = some o → b ∉ ex → ∃ o', h'.get? b = some o'
  tups : ∀ b xs, H b = some (.tup xs) → H' b = some (.tup xs)
  frzs : ∀ b o u, H b = some (.frz o u) → H' b = some (.frz o u)
  tbls : ∀ b ps, H b = some (.tbl ps) → ∃ more, H' b = some (.tbl (ps ++ more))
section
variable {fs fs' ex ex' : List Addr} {H H1 H2 : Hp} {h h1 h2 h' : Heap} {a x e : Addr} {o : HO}
theorem Un.any (u : Un fs ex H H1 h h1) {b : Addr} {ob : Obj} (q : h.get? b = some ob) (n : H b = none) (hx : b ∉ ex) : ∃ sl, h1.get? b = some { ob with slots := sl } := by
  by_cases hb : b ∈ fs
  · exact u.slot b ob q n hb hx
  · exact ⟨ob.slots, u.keep b ob q n hb hx⟩
theorem Un.kept (k : ∀ b u, h.get? b = some u → h'.get? b = some u) : Un fs ex H H h h' :=
  ⟨fun b ob q _ _ _ => k b ob q, fun b ob q _ _ _ => ⟨ob.slots, k b ob q⟩, fun _ _ _ n _ => n, fun b ob q _ => ⟨ob, k b ob q⟩, fun _ _ q => q, fun _ _ _ q => q, fun _ ps q => ⟨#[], by rw [q]; simp⟩⟩
theorem Un.refl : Un fs ex H H h h := Un.kept fun _ _ q => q
theorem Un.laid (k : ∀ b u, h.get? b = some u → h'.get? b = some u) (hp : h.objs.size ≤ a) (hn : H a = none) : Un fs ex H (upd H a o) h h' where
  keep := fun b u q _ _ _ => k b u q
  slot := fun b u q _ _ _ => ⟨u.slots, k b u q⟩
  free := fun b u q n _ => by rw [upd_ne (Nat.ne_of_lt (Nat.lt_of_lt_of_le (Heap.lt_size q) hp))]; exact n
  there := fun b u q _ => ⟨u, k b u q⟩
  tups := fun b xs q => by rw [upd_ne (ne_of_none q hn)]; exact q
  frzs := fun b u xs q => by rw [upd_ne (ne_of_none q hn)]; exact q
  tbls := fun b ps q => ⟨#[], by rw [upd_ne (ne_of_none q hn), q]; simp⟩
theorem Un.write (mu : Mut (H x)) (he : e = x ∨ H e = some (.own x)) (k : ∀ b u, b ≠ e → h.get? b = some u → h'.get? b = some u) (heo : ∃ u, h'.get? e = some u) : Un fs ex H (upd H x o) h h' := by
  have hx : ∀ b, H b = none → b ≠ x := fun b n z => by subst z; rw [n] at mu; exact mu
  have hb : ∀ b, H b = none → b ≠ e := fun b n z => by
    subst z
    rcases he with r | r
    · exact hx b n r
    · rw [n] at r; cases r
  have hm : ∀ b u, H b = some u → ¬ Mut (some u) → b ≠ x := fun b u q nm z => by subst z; rw [q] at mu; exact nm mu
  refine ⟨fun b u q n _ _ => k b u (hb b n) q, fun b u q n _ _ => ⟨u.slots, k b u (hb b n) q⟩, fun b u q n _ => by rw [upd_ne (hx b n)]; exact n, fun b u q _ => ?_,
    fun b xs q => by rw [upd_ne (hm b _ q fun z => z)]; exact q, fun b u xs q => by rw [upd_ne (hm b _ q fun z => z)]; exact q, fun b ps q => ⟨#[], by rw [upd_ne (hm b _ q fun z => z), q]; simp⟩⟩
  by_cases hbe : b = e
  · subst hbe; exact heo
  · exact ⟨u, k b u hbe q⟩
end
def trk (h : Heap) (H : Hp) : List Addr := (List.range h.objs.size).filter fun a => (H a).isSome
def hidT (h : Heap) (H : Hp) : Heap := PySem.W.hideAll h (trk h H)
theorem hidT_size (h : Heap) (H : Hp) : (hidT h H).objs.size = h.objs.size := PySem.W.hideAll_size _ _
theorem hidT_get {h : Heap} {H : Hp} {b : Addr} {o : Obj} (e : h.get? b = some o) (n : H b = none) : (hidT h H).get? b = some o :=
  PySem.W.hideAll_get _ e fun hm => by
    have q : (H b).isSome = true := (List.mem_filter.mp hm).2
    rw [n] at q; simp at q
theorem of_hidT {h : Heap} {H : Hp} {b : Addr} {o : Obj} (e : (hidT h H).get? b = some o) : h.get? b = some o ∧ H b = none := by
  have e' : h.get? b = some o := PySem.W.of_hideAll (trk h H) e
  refine ⟨e', ?_⟩
  cases q : H b with
  | none => rfl
  | some x =>
    have hm : b ∈ trk h H := List.mem_filter.mpr ⟨List.mem_range.mpr (Heap.lt_size e'), by simp [q]⟩
    have z : (hidT h H).get? b = none := PySem.W.hideAll_none (trk h H) hm
    rw [z] at e; cases e
def allNews (g h : Heap) (L : Addr) : List (Addr × Obj) := (List.range h.objs.size).filterMap fun a => if a = L ∨ (g.get? a).isSome = true then none else (h.get? a).map fun o => (a, o)
def rest (g h : Heap) (L d : Addr) : List (Addr × Obj) := (allNews g h L).filter fun p => decide (p.1 ≠ d)
end L2
namespace L2
open PySem PySem.Spec PyProof.Rows
structure Mod (K : PySem.W.Frag) (mg : Str → Option Value) (base : Heap) : Prop where
  kin : K.In base
  glob : base.Ns mainGlobals mg
  blt : ∃ mb, base.Ns builtinsNs mb ∧ ∀ x : Str, x ≠ "__name__" → mb x = bootBuiltins x
  nolimit : base.NoLimit
structure Cx where
  prog : Program
  w : World
  K : PySem.W.Frag
  mg : Str → Option Value
  base : Heap
  A : Around
  N : List Str
  s₀ : Shared
  H₀ : Hp
  env : Env
  outer : List Env
  stack : List Env
  ex : List Addr
  fn : Str → Bool
  calm : Bool
  pn : List (Addr × Obj)
  xe : Value → Shared → Prop
def frs (l : List Env) : List Addr := l.filterMap (·.frame)
abbrev Cx.fs (X : Cx) : List Addr := frs X.outer
def Vis (sc : Scope) (x : Str) : Prop := sc.names.lookup x = some .local ∨ sc.names.lookup x = some .cell ∨ sc.names.lookup x = some .free
def Loc (sc : Scope) (x : Str) : Prop := sc.names.lookup x = some .local ∨ sc.names.lookup x = some .cell
def Look (env : Env) (h : Heap) (m : Str → Option Value) (x : Str) (u : Value) : Prop :=
  (env.kindOf x = some .local ∧ m x = some u) ∨ ((env.kindOf x = some .cell ∨ env.kindOf x = some .free) ∧ ∃ c, env.cells.lookup x = some c ∧ h.IsCell c (some u))
structure Cx.Ok (X : Cx) : Prop where
  mod : Mod X.K X.mg X.base
  kind : X.env.scope.kind = .function
  glob : X.env.globals = mainGlobals
  blt : X.env.builtins = builtinsNs
  above : X.s₀.heap.objs.size ≤ X.env.locals
  inj : ∀ x y c, X.env.cells.lookup x = some c → X.env.cells.lookup y = some c → x = y
  has : ∀ x, (X.env.kindOf x = some .cell ∨ X.env.kindOf x = some .free) → ∃ c, X.env.cells.lookup x = some c
  cab : ∀ x c, X.fn x = true → X.env.cells.lookup x = some c → X.s₀.heap.objs.size ≤ c
  hd : X.calm = true → X.A.handled = none
  frames : X.A.frames = some X.stack
  stk : X.stack = X.outer ∨ (X.stack = X.env :: X.outer ∧ X.env.frame = some X.env.locals)
  exf : ∀ b ∈ X.ex, b ≠ X.env.locals ∧ ∀ x c, X.env.cells.lookup x = some c → c ≠ b
  bs : ∀ b o, X.base.get? b = some o → X.s₀.heap.get? b = some o ∧ X.H₀ b = none
  bsz : X.base.objs.size ≤ X.s₀.heap.objs.size
  noex : ∀ b o, X.base.get? b = some o → b ∉ X.ex
  exfs : ∀ b ∈ X.ex, b ∉ X.fs
  funs : X.s₀.heap.FunFrames X.base X.outer
  frf : ∀ b ∈ X.fs, X.H₀ b = none
structure Inv (X : Cx) (pins : List (Addr × Obj)) (σ : List (Option V)) (H : Hp) (s : Shared) : Prop where
  ok : X.Ok
  os : s.os = X.s₀.os
  bare : AllBare s.gens
  base : Un X.fs X.ex X.H₀ H X.s₀.heap s.heap
  loc : ∃ m, s.heap.Ns X.env.locals m ∧ ∀ (i : Nat) (x : Str) (v : V), X.N[i]? = some x → σ[i]? = some (some v) → Vis X.env.scope x → ∃ u, RelV v u ∧ Look X.env s.heap m x u
  cell : ∀ x c, X.env.cells.lookup x = some c → ∃ v, s.heap.IsCell c v
  free : H X.env.locals = none
  freeC : ∀ x c, X.env.cells.lookup x = some c → H c = none
  pin : ∀ p ∈ X.pn ++ pins, s.heap.get? p.1 = some p.2 ∧ H p.1 = none ∧ p.1 ≠ X.env.locals ∧ p.1 ∉ X.fs ∧ ∀ v, p.2.data ≠ .cell v
  hok : HOk X.prog X.w H s.heap
  len : σ.length = X.N.length
section
variable {X : Cx} {pins : List (Addr × Obj)} {σ : List (Option V)} {H H' : Hp} {s : Shared} {h' : Heap}
theorem Cx.Ok.nofr (ok : X.Ok) {b : Addr} {o : Obj} (e : X.base.get? b = some o) : b ∉ X.fs := fun hb => by
  have := (ok.funs.mem hb).1
  rw [e] at this; cases this
theorem Inv.bs (I : Inv X pins σ H s) : ∀ b o, X.base.get? b = some o → s.heap.get? b = some o ∧ H b = none := fun b o e =>
  ⟨I.base.keep b o (I.ok.bs b o e).1 (I.ok.bs b o e).2 (I.ok.nofr e) (I.ok.noex b o e), I.base.free b o (I.ok.bs b o e).1 (I.ok.bs b o e).2 (I.ok.noex b o e)⟩
theorem Inv.bk (I : Inv X pins σ H s) : ∀ b o, X.base.get? b = some o → s.heap.get? b = some o := fun b o e => (I.bs b o e).1
theorem Inv.mod (I : Inv X pins σ H s) : Mod X.K X.mg X.base := I.ok.mod
theorem Inv.kIn (I : Inv X pins σ H s) : X.K.In s.heap := I.ok.mod.kin.keeps I.bk
theorem Inv.lt (I : Inv X pins σ H s) : X.env.locals < s.heap.objs.size := let ⟨_, hn, _⟩ := I.loc; hn.lt
theorem Inv.sz (I : Inv X pins σ H s) : X.s₀.heap.objs.size ≤ s.heap.objs.size := Nat.le_trans I.ok.above (Nat.le_of_lt I.lt)
theorem Inv.nofs (I : Inv X pins σ H s) {a : Addr} (h : s.heap.objs.size ≤ a) : a ∉ X.fs := fun hb => by
  obtain ⟨_, o, ho, _⟩ := I.ok.funs.mem hb
  exact absurd (Nat.lt_of_lt_of_le (Heap.lt_size ho) (Nat.le_trans I.sz h)) (Nat.lt_irrefl _)
theorem Inv.cne (I : Inv X pins σ H s) : ∀ x c, X.env.cells.lookup x = some c → c ≠ X.env.locals := fun x c e z => by
  obtain ⟨v, o, ho, hd⟩ := I.cell x c e
  obtain ⟨m, ⟨o', es, ep, ho', hd', _⟩, _⟩ := I.loc
  rw [z, ho'] at ho; cases ho; rw [hd'] at hd; cases hd
theorem Inv.funs (I : Inv X pins σ H s) : s.heap.FunFrames X.base X.outer := by
  have all : ∀ (l : List Env), (∀ b ∈ frs l, b ∈ X.fs) → X.s₀.heap.FunFrames X.base l → s.heap.FunFrames X.base l := by
    intro l
    induction l with
    | nil => intro _ _; trivial
    | cons env r ih =>
      intro hs hl
      obtain ⟨hk, ⟨L, o, hf, hn, ho, hd⟩, hr⟩ := hl
      have hL : L ∈ X.fs := hs L (by unfold frs; rw [List.filterMap_cons, hf]; exact List.mem_cons_self)
      obtain ⟨sl, e⟩ := I.base.slot L o ho (I.ok.frf L hL) hL fun z => I.ok.exfs L z hL
      exact ⟨hk, ⟨L, _, hf, hn, e, hd⟩, ih (fun b hb => hs b (by unfold frs; rw [List.filterMap_cons, hf]; exact List.mem_cons_of_mem _ hb)) hr⟩
  exact all X.outer (fun _ hb => hb) I.ok.funs
theorem Inv.stack (I : Inv X pins σ H s) : s.heap.FunFrames X.base X.stack := by
  rcases I.ok.stk with e | ⟨e, hf⟩
  · rw [e]; exact I.funs
  · rw [e]
    obtain ⟨m, hn, _⟩ := I.loc
    refine .cons (by rw [I.ok.kind]; decide) hf hn ?_ I.funs
    exact Heap.get?_none_of_le (Nat.le_trans I.ok.bsz I.ok.above)
theorem Inv.stkSub (I : Inv X pins σ H s) : ∀ b ∈ frs X.stack, b ∈ X.env.locals :: X.fs := fun b hb => by
  rcases I.ok.stk with e | ⟨e, hf⟩
  · rw [e] at hb; exact List.mem_cons_of_mem _ hb
  · rw [e] at hb
    unfold frs at hb
    rw [List.filterMap_cons, hf] at hb
    exact hb
theorem Inv.stkFree (I : Inv X pins σ H s) : ∀ b ∈ frs X.stack, H b = none := fun b hb => by
  rcases List.mem_cons.mp (I.stkSub b hb) with e | hb
  · rw [e]; exact I.free
  · obtain ⟨_, o, ho, _⟩ := I.ok.funs.mem hb
    exact I.base.free b o ho (I.ok.frf b hb) fun z => I.ok.exfs b z hb
theorem Inv.step {g' : Array GenState} {t' : Nat} {d' : Drawn} {ch : List Addr} (I : Inv X pins σ H s)
    (hch : ∀ b ∈ ch, (b ∈ X.ex ∨ X.s₀.heap.objs.size ≤ b) ∧ b ≠ X.env.locals ∧ (∀ x c, X.env.cells.lookup x = some c → c ≠ b) ∧ ∀ p ∈ X.pn ++ pins, p.1 ≠ b)
    (keep : ∀ b o, b ≠ X.env.locals → b ∉ X.fs → b ∉ ch → s.heap.get? b = some o → H b = none → h'.get? b = some o)
    (slot : ∀ b o, b ≠ X.env.locals → b ∈ X.fs → b ∉ ch → s.heap.get? b = some o → H b = none → ∃ sl, h'.get? b = some { o with slots := sl }) (free : ∀ b o, b ∉ ch → s.heap.get? b = some o → H b = none → H' b = none)
    (there : ∀ b o, b ∉ ch → s.heap.get? b = some o → ∃ o', h'.get? b = some o')
    (tups : ∀ b xs, H b = some (.tup xs) → H' b = some (.tup xs)) (frzs : ∀ b o u, H b = some (.frz o u) → H' b = some (.frz o u)) (tbls : ∀ b ps, H b = some (.tbl ps) → ∃ more, H' b = some (.tbl (ps ++ more)))
    (ns : ∀ m, s.heap.Ns X.env.locals m → h'.Ns X.env.locals m) (hok : HOk X.prog X.w H' h') (hg : AllBare g') :
    Inv X pins σ H' { s with heap := h', gens := g', drawn := d', toks := t' } := by
  have neL : ∀ b o, X.s₀.heap.get? b = some o → b ≠ X.env.locals := fun b o e => Nat.ne_of_lt (Nat.lt_of_lt_of_le (Heap.lt_size e) I.ok.above)
  have neC : ∀ b o, X.s₀.heap.get? b = some o → b ∉ X.ex → b ∉ ch := fun b o e hx hb => by
    rcases (hch b hb).1 with z | z
    · exact hx z
    · exact absurd (Nat.lt_of_lt_of_le (Heap.lt_size e) z) (Nat.lt_irrefl _)
  have cellK : ∀ x c, X.env.cells.lookup x = some c → ∀ v, s.heap.IsCell c v → h'.IsCell c v := fun x c e v ⟨o, ho, hd⟩ => by
    have nch : c ∉ ch := fun z => (hch c z).2.2.1 x c e rfl
    by_cases hc : c ∈ X.fs
    · obtain ⟨sl, q⟩ := slot c o (I.cne x c e) hc nch ho (I.freeC x c e)
      exact ⟨_, q, hd⟩
    · exact ⟨o, keep c o (I.cne x c e) hc nch ho (I.freeC x c e), hd⟩
  refine ⟨I.ok, I.os, hg, ⟨fun b o e n hb hx => ?_, fun b o e n hb hx => ?_, fun b o e n hx => ?_, fun b o e hx => ?_, fun b xs e => tups b xs (I.base.tups b xs e), fun b o xs e => frzs b o xs (I.base.frzs b o xs e), fun b ps e => ?_⟩, ?_, fun x c e => ?_, ?_, fun x c e => ?_, fun p hp => ?_, hok, I.len⟩
  · exact keep b o (neL b o e) hb (neC b o e hx) (I.base.keep b o e n hb hx) (I.base.free b o e n hx)
  · obtain ⟨sl, e1⟩ := I.base.slot b o e n hb hx
    obtain ⟨sl', e2⟩ := slot b _ (neL b o e) hb (neC b o e hx) e1 (I.base.free b o e n hx)
    exact ⟨sl', e2⟩
  · obtain ⟨o', e1⟩ := I.base.there b o e hx
    exact free b o' (neC b o e hx) e1 (I.base.free b o e n hx)
  · obtain ⟨o', e1⟩ := I.base.there b o e hx
    exact there b o' (neC b o e hx) e1
  · obtain ⟨m1, e1⟩ := I.base.tbls b ps e
    obtain ⟨m2, e2⟩ := tbls b _ e1
    exact ⟨m1 ++ m2, by rw [e2, Array.append_assoc]⟩
  · obtain ⟨m, hn, hl⟩ := I.loc
    refine ⟨m, ns m hn, fun i x v e1 e2 e3 => ?_⟩
    obtain ⟨u, r, l⟩ := hl i x v e1 e2 e3
    refine ⟨u, r, ?_⟩
    rcases l with l | ⟨k, c, e, z⟩
    · exact .inl l
    · exact .inr ⟨k, c, e, cellK x c e _ z⟩
  · obtain ⟨v, z⟩ := I.cell x c e
    exact ⟨v, cellK x c e v z⟩
  · obtain ⟨m, ⟨o, _, _, ho, _⟩, _⟩ := I.loc
    exact free _ o (fun z => (hch _ z).2.1 rfl) ho I.free
  · obtain ⟨v, o, ho, hd⟩ := I.cell x c e
    exact free c o (fun z => (hch c z).2.2.1 x c e rfl) ho (I.freeC x c e)
  · obtain ⟨e, n, ne, nf, d⟩ := I.pin p hp
    have nch : p.1 ∉ ch := fun z => (hch p.1 z).2.2.2 p hp rfl
    exact ⟨keep p.1 p.2 ne nf nch e n, free p.1 p.2 nch e n, ne, nf, d⟩
theorem Inv.un {t' : Nat} (I : Inv X pins σ H s) (u : Un X.fs [] H H' s.heap h') (hok : HOk X.prog X.w H' h') : Inv X pins σ H' { s with heap := h', toks := t' } := by
  obtain ⟨m, ⟨o, es, ep, ho, r⟩, _⟩ := id I.loc
  obtain ⟨sl, hL⟩ := u.any ho I.free (by simp)
  exact I.step (g' := s.gens) (d' := s.drawn) (ch := []) (fun _ z => nomatch z) (fun b o _ hb _ e n => u.keep b o e n hb (by simp)) (fun b o _ hb _ e n => u.slot b o e n hb (by simp)) (fun b o _ e n => u.free b o e n (by simp)) (fun b o _ e => u.there b o e (by simp)) u.tups u.frzs u.tbls (fun m' hm => by
    obtain ⟨o', es', ep', ho', r'⟩ := hm
    rw [ho] at ho'; cases ho'
    exact ⟨_, es', ep', hL, r'⟩) hok I.bare
theorem Inv.call {g' : Array GenState} {t' : Nat} {d' : Drawn} {ch : List Addr} (I : Inv X pins σ H s) (u : Un (frs X.stack) ch H H' s.heap h') (hok : HOk X.prog X.w H' h') (hg : AllBare g')
    (hch : ∀ b ∈ ch, (b ∈ X.ex ∨ X.s₀.heap.objs.size ≤ b) ∧ b ≠ X.env.locals ∧ (∀ x c, X.env.cells.lookup x = some c → c ≠ b) ∧ ∀ p ∈ X.pn ++ pins, p.1 ≠ b) :
    Inv X pins σ H' { s with heap := h', gens := g', drawn := d', toks := t' } := by
  obtain ⟨m, ⟨o, es, ep, ho, r⟩, _⟩ := id I.loc
  obtain ⟨sl, hL⟩ := u.any ho I.free fun z => (hch _ z).2.1 rfl
  exact I.step (ch := ch) hch (fun b o hL hb hc e n => u.keep b o e n (fun z => (List.mem_cons.mp (I.stkSub b z)).elim hL hb) hc) (fun b o _ _ hc e n => u.any e n hc) (fun b o hc e n => u.free b o e n hc) (fun b o hc e => u.there b o e hc) u.tups u.frzs u.tbls (fun m' hm => by
    obtain ⟨o', es', ep', ho', r'⟩ := hm
    rw [ho] at ho'; cases ho'
    exact ⟨_, es', ep', hL, r'⟩) hok hg
theorem Inv.turned {t' : Nat} {it : Addr} (I : Inv X pins σ H s) (k : ∀ b o, b ≠ it → s.heap.get? b = some o → h'.get? b = some o) (hn : H it = none) (hL : it ≠ X.env.locals)
    (h1 : it ∈ X.ex ∨ X.s₀.heap.objs.size ≤ it) (h2 : ∀ x c, X.env.cells.lookup x = some c → c ≠ it) (h3 : ∀ p ∈ X.pn ++ pins, p.1 ≠ it) : Inv X pins σ H { s with heap := h', toks := t' } := by
  have nit : ∀ b u, H b = some u → b ≠ it := fun b u e z => by rw [z, hn] at e; cases e
  refine I.step (g' := s.gens) (d' := s.drawn) (ch := [it]) (fun b hb => ?_) (fun b o _ _ hc e _ => k b o (fun z => hc (by simp [z])) e) (fun b o _ _ hc e _ => ⟨o.slots, k b o (fun z => hc (by simp [z])) e⟩) (fun _ _ _ _ n => n)
    (fun b o hc e => ⟨o, k b o (fun z => hc (by simp [z])) e⟩) (fun _ _ e => e) (fun _ _ _ e => e) (fun b ps e => ⟨#[], by rw [e]; simp⟩) (fun m hm => ?_) (fun b u e => ?_) I.bare
  · have e : b = it := by simpa using hb
    subst e
    exact ⟨h1, hL, h2, h3⟩
  · obtain ⟨o, es, ep, ho, r⟩ := hm
    exact ⟨o, es, ep, k _ o (Ne.symm hL) ho, r⟩
  · refine (I.hok b u e).stay (fun c v hc q => k c v ?_ q) (fun _ q => q) fun _ _ q => q
    rcases hc with z | z
    · rw [z]; exact nit b u e
    · exact nit c _ z
theorem Inv.tok (I : Inv X pins σ H s) (t : Nat) : Inv X pins σ H { s with toks := t } := I.un (h' := s.heap) (t' := t) Un.refl I.hok
theorem Inv.kept {t' : Nat} (I : Inv X pins σ H s) (k : ∀ b u, s.heap.get? b = some u → h'.get? b = some u) : Inv X pins σ H { s with heap := h', toks := t' } := I.un (Un.kept k) (I.hok.kept k)
theorem Inv.laid {a : Addr} {o : HO} {t' : Nat} (I : Inv X pins σ H s) (k : ∀ b u, s.heap.get? b = some u → h'.get? b = some u) (hp : s.heap.objs.size ≤ a) (new : ObjOk X.prog X.w (upd H a o) h' a o) :
    Inv X pins σ (upd H a o) { s with heap := h', toks := t' } := I.un (Un.laid k hp (I.hok.fresh hp)) (I.hok.laid k hp new)
theorem Inv.write {x e : Addr} {o : HO} {t' : Nat} (I : Inv X pins σ H s) (mu : Mut (H x)) (he : e = x ∨ H e = some (.own x)) (k : ∀ b u, b ≠ e → s.heap.get? b = some u → h'.get? b = some u) (heo : ∃ u, h'.get? e = some u)
    (new : ObjOk X.prog X.w (upd H x o) h' x o) : Inv X pins σ (upd H x o) { s with heap := h', toks := t' } := I.un (Un.write mu he k heo) (I.hok.write mu he k heo new)
theorem Inv.pins_of {pins' : List (Addr × Obj)} (I : Inv X pins σ H s) (h : ∀ p ∈ pins', s.heap.get? p.1 = some p.2 ∧ H p.1 = none ∧ p.1 ≠ X.env.locals ∧ p.1 ∉ X.fs ∧ ∀ v, p.2.data ≠ .cell v) : Inv X pins' σ H s :=
  ⟨I.ok, I.os, I.bare, I.base, I.loc, I.cell, I.free, I.freeC, fun p hp => (List.mem_append.mp hp).elim (fun z => I.pin p (List.mem_append_left _ z)) (h p), I.hok, I.len⟩
theorem nodup_ix {N : List Str} (hN : N.Nodup) {i j : Nat} {x : Str} (a : N[i]? = some x) (b : N[j]? = some x) : i = j := by
  obtain ⟨h1, e1⟩ := List.getElem?_eq_some_iff.mp a
  obtain ⟨h2, e2⟩ := List.getElem?_eq_some_iff.mp b
  exact (List.getElem_inj hN).mp (e1.trans e2.symm)
theorem store_ok2 {M : Model} {A : Around} {E : Value → Shared → Prop} {i : Nat} {x : Str} {v : V} {u : Value} {Q : Unit → Shared → Prop} (I : Inv X pins σ H s) (hN : X.N.Nodup) (hi : X.N[i]? = some x) (hx : Loc X.env.scope x) (r : RelV v u)
    (h : ∀ s', Inv X pins (σ.set i (some v)) H s' → (∃ a, Heap.SameBut a s.heap s'.heap ∧ (a = X.env.locals ∨ X.env.cells.lookup x = some a)) → Q () s') (hf : X.fn x = true ∨ X.env.scope.names.lookup x = some .local := by first | exact .inl rfl | exact .inr rfl | assumption) : wpAny M A (storeName X.env x u) Q E s := by
  obtain ⟨m, hn, hl⟩ := id I.loc
  have hcls : (X.env.scope.kind == .class || (X.env.scope.kind == .module && X.env.locals != X.env.globals)) = false := by rw [I.ok.kind]; rfl
  have hiσ : i < σ.length := by rw [I.len]; exact (List.getElem?_eq_some_iff.mp hi).1
  have cne := I.cne
  have tracked : ∀ {a : Addr} {h' : Heap}, (∃ o, s.heap.get? a = some o ∧ H a = none) → Heap.SameBut a s.heap h' → HOk X.prog X.w H h' := fun {a h'} ha hs b ob e => by
    obtain ⟨_, _, hfree⟩ := ha
    refine (I.hok b ob e).stay (fun c w' hc q => (hs.2 c ?_).trans q) (fun _ q => q) fun _ _ q => q
    rintro rfl
    rcases hc with rfl | hc
    · rw [hfree] at e; cases e
    · rw [hfree] at hc; cases hc
  rcases hx with hk | hk
  · refine wpAny_storeName_local hk hn (fun h' hn' hs => ?_) hcls
    obtain ⟨oL, _, _, hoL, _⟩ := id hn
    refine h _ ⟨I.ok, I.os, I.bare, ⟨fun b o e n hb hx => ?_, fun b o e n hb hx => ?_, I.base.free, fun b o e hx => ?_, I.base.tups, I.base.frzs, I.base.tbls⟩, ⟨_, hn', fun j y v' e1 e2 e3 => ?_⟩, fun y c e => ?_, I.free, I.freeC, fun p hp => ?_, tracked ⟨oL, hoL, I.free⟩ hs, by simpa using I.len⟩ ⟨_, hs, .inl rfl⟩
    · exact (hs.2 b (Nat.ne_of_lt (Nat.lt_of_lt_of_le (Heap.lt_size e) I.ok.above))).trans (I.base.keep b o e n hb hx)
    · obtain ⟨sl, e1⟩ := I.base.slot b o e n hb hx
      exact ⟨sl, (hs.2 b (Nat.ne_of_lt (Nat.lt_of_lt_of_le (Heap.lt_size e) I.ok.above))).trans e1⟩
    · obtain ⟨o', e1⟩ := I.base.there b o e hx
      exact ⟨o', (hs.2 b (Nat.ne_of_lt (Nat.lt_of_lt_of_le (Heap.lt_size e) I.ok.above))).trans e1⟩
    · by_cases hj : j = i
      · subst hj
        rw [hi] at e1; cases e1
        rw [List.getElem?_set_self hiσ] at e2
        cases e2
        exact ⟨u, r, .inl ⟨hk, by simp⟩⟩
      · rw [List.getElem?_set_ne (Ne.symm hj)] at e2
        obtain ⟨u', r', q⟩ := hl j y v' e1 e2 e3
        refine ⟨u', r', ?_⟩
        rcases q with ⟨k, e⟩ | ⟨k, c, e, z⟩
        · refine .inl ⟨k, ?_⟩
          have : y ≠ x := fun e => hj (nodup_ix hN e1 (e ▸ hi))
          simp [this, e]
        · exact .inr ⟨k, c, e, z.sameBut hs (cne y c e)⟩
    · obtain ⟨w', z⟩ := I.cell y c e
      exact ⟨w', z.sameBut hs (cne y c e)⟩
    · obtain ⟨e, n, ne, nf, d⟩ := I.pin p hp
      exact ⟨(hs.2 p.1 ne).trans e, n, ne, nf, d⟩
  · have hfn : X.fn x = true := by
      rcases hf with z | z
      · exact z
      · rw [z] at hk; cases hk
    obtain ⟨c, hc⟩ := I.ok.has x (.inl hk)
    obtain ⟨w', z⟩ := I.cell x c hc
    refine wpAny_storeName_cell I.ok.kind hk hc z (fun h' hc' hs => ?_)
    obtain ⟨oc, hoc, hocd⟩ := id z
    refine h { s with heap := h' } ⟨I.ok, I.os, I.bare, ⟨fun b o e n hb hx => ?_, fun b o e n hb hx => ?_, I.base.free, fun b o e hx => ?_, I.base.tups, I.base.frzs, I.base.tbls⟩, ⟨m, hn.sameBut hs (Ne.symm (cne x c hc)), fun j y v' e1 e2 e3 => ?_⟩, fun y c' e => ?_, I.free, I.freeC, fun p hp => ?_, tracked ⟨oc, hoc, I.freeC x c hc⟩ hs, by simpa using I.len⟩ ⟨c, hs, .inr hc⟩
    · exact (hs.2 b (Nat.ne_of_lt (Nat.lt_of_lt_of_le (Heap.lt_size e) (I.ok.cab x c hfn hc)))).trans (I.base.keep b o e n hb hx)
    · obtain ⟨sl, e1⟩ := I.base.slot b o e n hb hx
      exact ⟨sl, (hs.2 b (Nat.ne_of_lt (Nat.lt_of_lt_of_le (Heap.lt_size e) (I.ok.cab x c hfn hc)))).trans e1⟩
    · obtain ⟨o', e1⟩ := I.base.there b o e hx
      exact ⟨o', (hs.2 b (Nat.ne_of_lt (Nat.lt_of_lt_of_le (Heap.lt_size e) (I.ok.cab x c hfn hc)))).trans e1⟩
    · by_cases hj : j = i
      · subst hj
        rw [hi] at e1; cases e1
        rw [List.getElem?_set_self hiσ] at e2
        cases e2
        exact ⟨u, r, .inr ⟨.inl hk, c, hc, hc'⟩⟩
      · rw [List.getElem?_set_ne (Ne.symm hj)] at e2
        obtain ⟨u', r', q⟩ := hl j y v' e1 e2 e3
        refine ⟨u', r', ?_⟩
        rcases q with q | ⟨k, c', e, z'⟩
        · exact .inl q
        · refine .inr ⟨k, c', e, z'.sameBut hs ?_⟩
          rintro rfl
          exact hj (nodup_ix hN e1 (I.ok.inj _ _ _ e hc ▸ hi))
    · by_cases hcc : c' = c
      · subst hcc; exact ⟨_, hc'⟩
      · obtain ⟨w2, z2⟩ := I.cell y c' e
        exact ⟨w2, z2.sameBut hs hcc⟩
    · obtain ⟨e, n, ne, nf, d⟩ := I.pin p hp
      refine ⟨(hs.2 p.1 ?_).trans e, n, ne, nf, d⟩
      intro q
      rw [q, hoc] at e
      have q' : oc = p.2 := Option.some.inj e
      exact d w' (by rw [← q']; exact hocd)
theorem store_ok {M : Model} {A : Around} {E : Value → Shared → Prop} {i : Nat} {x : Str} {v : V} {u : Value} {Q : Unit → Shared → Prop} (I : Inv X pins σ H s) (hN : X.N.Nodup) (hi : X.N[i]? = some x) (hx : Loc X.env.scope x) (r : RelV v u)
    (h : ∀ s', Inv X pins (σ.set i (some v)) H s' → Q () s') (hf : X.fn x = true ∨ X.env.scope.names.lookup x = some .local := by first | exact .inl rfl | exact .inr rfl | assumption) : wpAny M A (storeName X.env x u) Q E s :=
  store_ok2 I hN hi hx r (fun s' I' _ => h s' I') hf
theorem Inv.call' {s' : Shared} {ch : List Addr} (I : Inv X pins σ H s) (ho : s'.os = s.os) (u : Un (frs X.stack) ch H H' s.heap s'.heap) (hok : HOk X.prog X.w H' s'.heap) (hg : AllBare s'.gens)
    (hch : ∀ b ∈ ch, (b ∈ X.ex ∨ X.s₀.heap.objs.size ≤ b) ∧ b ≠ X.env.locals ∧ (∀ x c, X.env.cells.lookup x = some c → c ≠ b) ∧ ∀ p ∈ X.pn ++ pins, p.1 ≠ b) : Inv X pins σ H' s' := by
  obtain ⟨h', g', d', t', o'⟩ := s'
  have e : o' = s.os := ho
  subst e
  exact I.call (g' := g') (t' := t') (d' := d') u hok hg hch
end
abbrev XK := Value → Option Addr → Hp → Prop
abbrev St := List (Option V)
abbrev VK := V → Hp → Prop
abbrev TE := St → Hp → VK → Prop
abbrev TT := St → Hp → (Bool → Hp → Prop) → Prop
abbrev TA := St → Hp → (List V → Hp → Prop) → Prop
structure Ends where
  nx : St → Hp → Prop
  rt : VK
  bk : St → Hp → Prop := fun _ _ => False
  ct : St → Hp → Prop := fun _ _ => False
abbrev TS := Ends → St → Hp → Prop
def EP (X : Cx) (pins : List (Addr × Obj)) (σ : St) (Q : VK) (u : Value) (s' : Shared) : Prop := ∃ v H', Inv X pins σ H' s' ∧ RelV v u ∧ Q v H'
def TP (X : Cx) (pins : List (Addr × Obj)) (σ : St) (Q : Bool → Hp → Prop) (b : Bool) (s' : Shared) : Prop := ∃ H', Inv X pins σ H' s' ∧ Q b H'
def AP (X : Cx) (pins : List (Addr × Obj)) (σ : St) (Q : List V → Hp → Prop) (us : List Value) (s' : Shared) : Prop := ∃ vs H', Inv X pins σ H' s' ∧ Vals vs us ∧ Q vs H'
def SP (X : Cx) (pins : List (Addr × Obj)) (D : Ends) (f : Flow) (s' : Shared) : Prop :=
  match f with
  | .next => ∃ σ' H', Inv X pins σ' H' s' ∧ D.nx σ' H'
  | .brk => ∃ σ' H', Inv X pins σ' H' s' ∧ D.bk σ' H'
  | .cont => ∃ σ' H', Inv X pins σ' H' s' ∧ D.ct σ' H'
  | .ret u => ∃ v σ' H', Inv X pins σ' H' s' ∧ RelV v u ∧ D.rt v H'
def PE (X : Cx) (e : Expr) (t : TE) : Prop :=
  ∀ (pins : List (Addr × Obj)) (s : Shared) (σ : St) (H : Hp) (Q : VK), Inv X pins σ H s → t σ H Q → wpAny (model X.prog X.w) X.A (eval e X.env) (EP X pins σ Q) X.xe s
def PT (X : Cx) (e : Expr) (t : TT) : Prop :=
  ∀ (pins : List (Addr × Obj)) (s : Shared) (σ : St) (H : Hp) (Q : Bool → Hp → Prop), Inv X pins σ H s → t σ H Q → wpAny (model X.prog X.w) X.A (isTrue e X.env (eval e X.env)) (TP X pins σ Q) X.xe s
def PW (X : Cx) (e : Expr) (t : TT) : Prop :=
  ∀ (whole : Sem Value) (pins : List (Addr × Obj)) (s : Shared) (σ : St) (H : Hp) (Q : Bool → Hp → Prop), Inv X pins σ H s → t σ H Q → wpAny (model X.prog X.w) X.A (isTrue e X.env whole) (TP X pins σ Q) X.xe s
theorem PW.pt {X : Cx} {e : Expr} {t : TT} (h : PW X e t) : PT X e t := h _
def PA (X : Cx) (es : List Expr) (t : TA) : Prop :=
  ∀ (pos : Pos) (pins : List (Addr × Obj)) (s : Shared) (σ : St) (H : Hp) (Q : List V → Hp → Prop), Inv X pins σ H s → t σ H Q → wpAny (model X.prog X.w) X.A (spliced (backTo pos (starEach es X.env))) (AP X pins σ Q) X.xe s
def PS (X : Cx) (st : Stmt) (t : TS) : Prop :=
  ∀ (pins : List (Addr × Obj)) (s : Shared) (σ : St) (H : Hp) (D : Ends), Inv X pins σ H s → t D σ H → wpAny (model X.prog X.w) X.A (exec st X.env) (SP X pins D) X.xe s
def PSs (X : Cx) (st : List Stmt) (t : TS) : Prop :=
  ∀ (pins : List (Addr × Obj)) (s : Shared) (σ : St) (H : Hp) (D : Ends), Inv X pins σ H s → t D σ H → wpAny (model X.prog X.w) X.A (execs st X.env) (SP X pins D) X.xe s
theorem thn {α : Type} {t : Sem α} {Q Q' : α → Shared → Prop} {M : Model} {A : Around} {E : Value → Shared → Prop} {s : Shared} (h : wpAny M A t Q E s) (hQ : ∀ a s, Q a s → Q' a s) : wpAny M A t Q' E s := wpAny_mono h hQ fun _ _ x => x
end L2
namespace L2
open PySem PySem.Spec PyProof.Rows
section
variable {X : Cx}
def tVar (i : Nat) : TE := fun σ H Q => ∃ v, σ[i]? = some (some v) ∧ Q v H
def tC (v : V) : TE := fun _ H Q => Q v H
theorem pe_var {i : Nat} {x : Str} {pos : Pos} (hN : X.N[i]? = some x) (hv : Vis X.env.scope x) (hd : (x == ("__debug__" : Str)) = false := by decide) (hcd : (x == ("__classdict__" : Str)) = false := by decide) : PE X (.Name x pos) (tVar i) := by
  intro pins s σ H Q I h
  obtain ⟨v, e, h⟩ := h
  obtain ⟨m, hn, hl⟩ := I.loc
  obtain ⟨u, r, l⟩ := hl i x v hN e hv
  have fin : EP X pins σ Q u s := ⟨v, H, I, r, h⟩
  rcases l with ⟨hk, hm⟩ | ⟨hk, c, hc, hcell⟩
  · exact wpAny_Name (wpAny_loadName_local I.ok.kind hk hn hm fin) hd
  · rcases hk with hk | hk
    · exact wpAny_Name (wpAny_loadName_cell I.ok.kind hk hc hcell fin) hd
    · exact wpAny_Name (wpAny_loadName_free I.ok.kind hk hc hcell fin hcd) hd
theorem pe_int {i j pos} : PE X (.Constant (.int i) j pos) (tC (.int i)) := fun _ _ _ H _ I h => wpAny_Constant_int ⟨.int i, H, I.tok _, ⟨_, rfl⟩, h⟩
theorem pe_bl {b j pos} : PE X (.Constant (.bool b) j pos) (tC (.bl b)) := fun _ _ _ H _ I h => Constant_bool ⟨.bl b, H, I, rfl, h⟩
theorem pe_non {j pos} : PE X (.Constant .none j pos) (tC .non) := fun _ _ _ H _ I h => Constant_none ⟨.non, H, I, rfl, h⟩
theorem pe_str {x j pos} : PE X (.Constant (.str x) j pos) (tC (.str x)) := fun _ _ _ H _ I h => Calls.Constant_str ⟨.str x, H, I.tok _, ⟨_, rfl⟩, h⟩
def Gl (X : Cx) (x : Str) : Prop := X.env.kindOf x = some .globalImplicit
theorem ld_glob {E : Value → Shared → Prop} {pins : List (Addr × Obj)} {s : Shared} {σ : St} {H : Hp} {x : Str} {u : Value} {pos : Pos} {Q : Value → Shared → Prop} (I : Inv X pins σ H s) (hg : Gl X x) (hm : X.mg x = some u) (h : Q u s)
    (hd : (x == ("__debug__" : Str)) = false := by decide) : wpAny (model X.prog X.w) X.A (eval (.Name x pos) X.env) Q E s :=
  Calls.Name_function_global I.ok.kind hg (Calls.loadGlobal_global (by rw [I.ok.glob]; exact I.mod.glob.keeps I.bk) hm h) hd
theorem ld_blt {E : Value → Shared → Prop} {pins : List (Addr × Obj)} {s : Shared} {σ : St} {H : Hp} {x : Str} {u : Value} {pos : Pos} {Q : Value → Shared → Prop} (I : Inv X pins σ H s) (hg : Gl X x) (hm : X.mg x = none) (hv : bootBuiltins x = some u) (h : Q u s)
    (hn : x ≠ "__name__" := by decide) (hd : (x == ("__debug__" : Str)) = false := by decide) : wpAny (model X.prog X.w) X.A (eval (.Name x pos) X.env) Q E s := by
  obtain ⟨mb, h1, h2⟩ := I.mod.blt
  exact Calls.Name_function_global I.ok.kind hg (Calls.loadGlobal_builtin (by rw [I.ok.glob]; exact I.mod.glob.keeps I.bk) hm (by rw [I.ok.blt]; exact h1.keeps I.bk) ((h2 x hn).trans hv) h) hd
theorem pe_glob {x : Str} {v : V} {u : Value} {pos : Pos} (hg : Gl X x) (hm : X.mg x = some u) (r : RelV v u) (hd : (x == ("__debug__" : Str)) = false := by decide) : PE X (.Name x pos) (tC v) :=
  fun _ _ _ H _ I h => ld_glob I hg hm ⟨v, H, I, r, h⟩ hd
theorem pe_bltn {x : Str} {v : V} {u : Value} {pos : Pos} (hg : Gl X x) (hm : X.mg x = none) (hv : bootBuiltins x = some u) (r : RelV v u) (hn : x ≠ "__name__" := by decide) (hd : (x == ("__debug__" : Str)) = false := by decide) : PE X (.Name x pos) (tC v) :=
  fun _ _ _ H _ I h => ld_blt I hg hm hv ⟨v, H, I, r, h⟩ hn hd
variable {a b : Expr} {ta tb : TE} {pos : Pos}
def PC (X : Cx) (op : CmpOp) (a b : Expr) (t : TE) : Prop :=
  ∀ (pins : List (Addr × Obj)) (s : Shared) (σ : St) (H : Hp) (Q : VK), Inv X pins σ H s → t σ H Q →
    wpAny (model X.prog X.w) X.A (eval a X.env) (fun v s₁ => wpAny (model X.prog X.w) X.A (eval b X.env) (fun u s₂ => wpAny (model X.prog X.w) X.A (compareOp op v u) (EP X pins σ Q) X.xe s₂) X.xe s₁) X.xe s
def tB (t : TE) : TT := fun σ H Q => t σ H fun x H1 => ∃ c, x = .bl c ∧ Q c H1
theorem pt_val {e : Expr} {t : TE} (h : PE X e t) (he : ∀ whole, isTrue e X.env whole = (do let v ← whole; standAt e.pos; holding [v] (truthy v)) := by intro _; rfl) : PT X e (tB t) := by
  intro pins s σ H Q I hw
  refine isTrue_plain (thn (h pins s σ H _ I hw) fun v s1 ⟨x, H1, I1, r1, q1⟩ => ?_) (he _)
  obtain ⟨d, rfl, q⟩ := q1
  cases r1
  exact wpAny_truthy_bool ⟨H1, I1, q⟩
variable {tA tB' : TT} {rest : List Expr}
def tAnd (t u : TT) : TT := fun σ H Q => t σ H fun c H1 => if c = true then u σ H1 Q else Q false H1
def tOr (t u : TT) : TT := fun σ H Q => t σ H fun c H1 => if c = true then Q true H1 else u σ H1 Q
def tNot (t : TT) : TT := fun σ H Q => t σ H fun c H1 => Q (!c) H1
theorem pw_and1 (ha : PT X a tA) : PW X (.BoolOp .And [a] pos) tA := by
  intro wh pins s σ H Q I h
  refine isTrue_and (thn (ha pins s σ H Q I h) fun c s1 e => ?_)
  cases c with
  | true => exact isTrue_and_nil e
  | false => exact e
theorem pw_or1 (ha : PT X a tA) : PW X (.BoolOp .Or [a] pos) tA := by
  intro wh pins s σ H Q I h
  refine isTrue_or (thn (ha pins s σ H Q I h) fun c s1 e => ?_)
  cases c with
  | false => exact isTrue_or_nil e
  | true => exact e
theorem pw_and (ha : PT X a tA) (hb : PW X (.BoolOp .And (b :: rest) pos) tB') : PW X (.BoolOp .And (a :: b :: rest) pos) (tAnd tA tB') := by
  intro wh pins s σ H Q I h
  refine isTrue_and (thn (ha pins s σ H _ I h) fun c s1 ⟨H1, I1, q1⟩ => ?_)
  cases c with
  | true => exact hb wh pins s1 σ H1 Q I1 q1
  | false => exact ⟨H1, I1, q1⟩
theorem pw_or (ha : PT X a tA) (hb : PW X (.BoolOp .Or (b :: rest) pos) tB') : PW X (.BoolOp .Or (a :: b :: rest) pos) (tOr tA tB') := by
  intro wh pins s σ H Q I h
  refine isTrue_or (thn (ha pins s σ H _ I h) fun c s1 ⟨H1, I1, q1⟩ => ?_)
  cases c with
  | true => exact ⟨H1, I1, q1⟩
  | false => exact hb wh pins s1 σ H1 Q I1 q1
theorem pt_not (ha : PT X a tA) : PT X (.UnaryOp .Not a pos) (tNot tA) := by
  intro pins s σ H Q I h
  exact isTrue_not (ha pins s σ H (fun c H1 => Q (!c) H1) I h)
def tAndV (ta tb : TE) : TE := fun σ H Q => ta σ H fun x H1 => ∃ c, x = .bl c ∧ if c = true then tb σ H1 Q else Q (.bl false) H1
def tOrV (ta tb : TE) : TE := fun σ H Q => ta σ H fun x H1 => ∃ c, x = .bl c ∧ if c = true then Q (.bl true) H1 else tb σ H1 Q
def tNotV (ta : TE) : TE := fun σ H Q => ta σ H fun x H1 => ∃ c, x = .bl c ∧ Q (.bl (!c)) H1
theorem pe_one {op} {t : TE} (h : PE X a t) : PE X (.BoolOp op [a] pos) t := fun pins s σ H Q I hw => BoolOp_one (h pins s σ H Q I hw)
theorem pe_and (ha : PE X a ta) (hb : PE X (.BoolOp .And (b :: rest) pos) tb) : PE X (.BoolOp .And (a :: b :: rest) pos) (tAndV ta tb) := by
  intro pins s σ H Q I h
  refine BoolOp_and (thn (ha pins s σ H _ I h) fun v s1 ⟨x, H1, I1, r1, q1⟩ => ?_)
  obtain ⟨c, rfl, q1⟩ := q1
  cases r1
  refine wpAny_truthy_bool ?_
  cases c with
  | true => exact hb pins s1 σ H1 Q I1 q1
  | false => exact ⟨.bl false, H1, I1, rfl, q1⟩
theorem pe_or (ha : PE X a ta) (hb : PE X (.BoolOp .Or (b :: rest) pos) tb) : PE X (.BoolOp .Or (a :: b :: rest) pos) (tOrV ta tb) := by
  intro pins s σ H Q I h
  refine BoolOp_or (thn (ha pins s σ H _ I h) fun v s1 ⟨x, H1, I1, r1, q1⟩ => ?_)
  obtain ⟨c, rfl, q1⟩ := q1
  cases r1
  refine wpAny_truthy_bool ?_
  cases c with
  | false => exact hb pins s1 σ H1 Q I1 q1
  | true => exact ⟨.bl true, H1, I1, rfl, q1⟩
theorem pe_not (ha : PE X a ta) : PE X (.UnaryOp .Not a pos) (tNotV ta) := by
  intro pins s σ H Q I h
  refine UnaryOp_ (thn (ha pins s σ H _ I h) fun v s1 ⟨x, H1, I1, r1, q1⟩ => ?_)
  obtain ⟨c, rfl, q1⟩ := q1
  cases r1
  exact not_of (wpAny_truthy_bool ⟨.bl (!c), H1, I1, rfl, q1⟩)
def tIf (t : TT) (ta tb : TE) : TE := fun σ H Q => t σ H fun c H1 => if c = true then ta σ H1 Q else tb σ H1 Q
theorem pe_ifExp {c : Expr} (hc : PT X c tA) (ha : PE X a ta) (hb : PE X b tb) : PE X (.IfExp c a b pos) (tIf tA ta tb) := by
  intro pins s σ H Q I h
  refine wpAny_IfExp (thn (hc pins s σ H _ I h) fun d s1 ⟨H1, I1, q1⟩ => ?_)
  cases d with
  | true => exact ha pins s1 σ H1 Q I1 q1
  | false => exact hb pins s1 σ H1 Q I1 q1
end
end L2
namespace L2
open PySem PySem.Spec PyProof.Rows
def SqL (K : PySem.W.Frag) (H : Hp) (a : Addr) (xs : List V) : Prop :=
  Rd H a (.lst xs) ∨
    ∃ (o : Obj) (its : Array Value) (n : Nat), K.lookup a = some o ∧ o.cls = .type "list" ∧ o.dict = none ∧ o.data = .seq its n ∧ its.size ≤ sizeLine ∧ Vals xs its.toList
def SqT (K : PySem.W.Frag) (H : Hp) (a : Addr) (xs : List V) : Prop :=
  Rd H a (.tup xs) ∨
    ∃ (o : Obj) (its : Array Value) (n : Nat), K.lookup a = some o ∧ o.cls = .type "tuple" ∧ o.data = .seq its n ∧ its.size ≤ sizeLine ∧ Vals xs its.toList
def absV : Value → Option V
  | .none => some .non
  | .bool b => some (.bl b)
  | .int i _ => some (.int i)
  | .str x _ => some (.str x)
  | .bytes b _ => some (.byt b)
  | .float b _ => some (.flt b)
  | .ref a => some (.ref a)
  | .type n => some (.ty n)
  | _ => none
theorem RelV.abs {x : V} {u : Value} (r : RelV x u) : absV u = some x := by
  cases x with
  | non => cases r; rfl
  | bl _ => cases r; rfl
  | int _ => obtain ⟨t, rfl⟩ := r; rfl
  | str _ => obtain ⟨t, rfl⟩ := r; rfl
  | byt _ => obtain ⟨t, rfl⟩ := r; rfl
  | flt _ => obtain ⟨t, rfl⟩ := r; rfl
  | ref _ => cases r; rfl
  | ty _ => cases r; rfl
theorem RelV.inj {x y : V} {u : Value} (r : RelV x u) (q : RelV y u) : x = y := Option.some.inj (r.abs.symm.trans q.abs)
theorem Vals.inj : ∀ {xs ys : List V} {us : List Value}, Vals xs us → Vals ys us → xs = ys
  | _, _, _, .nil, .nil => rfl
  | _, _, _, .cons r t, .cons r' t' => by rw [r.inj r', Vals.inj t t']
section
variable {X : Cx} {pins : List (Addr × Obj)} {σ : St} {H : Hp} {s : Shared} {a : Addr} {xs ys : List V}
theorem SqL.of {K : PySem.W.Frag} (h : H a = some (.lst xs)) : SqL K H a xs := .inl (.inl h)
theorem SqT.of {K : PySem.W.Frag} (h : H a = some (.tup xs)) : SqT K H a xs := .inl (.inl h)
theorem Inv.list (I : Inv X pins σ H s) (h : SqL X.K H a xs) : ∃ its : List Value, Vals xs its ∧ PlainL s.heap a its.toArray ∧ xs.length ≤ sizeLine := by
  rcases h with h | ⟨o, its, n, hk, hc, hd, hs, hz, r⟩
  · obtain ⟨z, its, n, r, e⟩ := h.ok I.hok
    exact ⟨its, r, ⟨_, n, e, rfl, rfl, rfl⟩, z⟩
  · refine ⟨its.toList, r, ⟨o, n, I.kIn a o hk, hc, hd, by simpa using hs⟩, ?_⟩
    have e := r.length
    simp only [Array.length_toList] at e
    omega
theorem Inv.tuple (I : Inv X pins σ H s) (h : SqT X.K H a xs) : ∃ its : List Value, Vals xs its ∧ IsTup s.heap a its.toArray ∧ xs.length ≤ sizeLine := by
  rcases h with h | ⟨o, its, n, hk, hc, hs, hz, r⟩
  · obtain ⟨z, its, r, p⟩ := h.ok I.hok
    exact ⟨its, r, p, z⟩
  · refine ⟨its.toList, r, ⟨o, I.kIn a o hk, hc, n, by simpa using hs⟩, ?_⟩
    have e := r.length
    simp only [Array.length_toList] at e
    omega
theorem Inv.list_inj (I : Inv X pins σ H s) (h : SqL X.K H a xs) (h' : SqL X.K H a ys) : xs = ys := by
  obtain ⟨its, r, ⟨o, n, e, _, _, d⟩, _⟩ := I.list h
  obtain ⟨its', r', ⟨o', n', e', _, _, d'⟩, _⟩ := I.list h'
  rw [e] at e'; cases e'
  rw [d] at d'
  injection d' with d1 _
  have : its = its' := by simpa using congrArg Array.toList d1
  subst this
  exact r.inj r'
theorem Inv.tuple_inj (I : Inv X pins σ H s) (h : SqT X.K H a xs) (h' : SqT X.K H a ys) : xs = ys := by
  obtain ⟨its, r, ⟨o, e, _, n, d⟩, _⟩ := I.tuple h
  obtain ⟨its', r', ⟨o', e', _, n', d'⟩, _⟩ := I.tuple h'
  rw [e] at e'; cases e'
  rw [d] at d'
  injection d' with d1 _
  have : its = its' := by simpa using congrArg Array.toList d1
  subst this
  exact r.inj r'
end
abbrev Cx.wish (X : Cx) (E : Value → Shared → Prop) : Cx := { X with xe := E }
abbrev Cx.nox (X : Cx) : Cx := X.wish fun _ _ => False
theorem Cx.Ok.wish {X : Cx} (ok : X.Ok) (E : Value → Shared → Prop) : (X.wish E).Ok :=
  ⟨ok.mod, ok.kind, ok.glob, ok.blt, ok.above, ok.inj, ok.has, ok.cab, ok.hd, ok.frames, ok.stk, ok.exf, ok.bs, ok.bsz, ok.noex, ok.exfs, ok.funs, ok.frf⟩
theorem Cx.Ok.unwish {X : Cx} {E : Value → Shared → Prop} (ok : (X.wish E).Ok) : X.Ok :=
  ⟨ok.mod, ok.kind, ok.glob, ok.blt, ok.above, ok.inj, ok.has, ok.cab, ok.hd, ok.frames, ok.stk, ok.exf, ok.bs, ok.bsz, ok.noex, ok.exfs, ok.funs, ok.frf⟩
section
variable {X : Cx} {pins : List (Addr × Obj)} {σ : St} {H : Hp} {s : Shared} {E : Value → Shared → Prop}
theorem Inv.wish (I : Inv X pins σ H s) (E : Value → Shared → Prop) : Inv (X.wish E) pins σ H s := ⟨I.ok.wish E, I.os, I.bare, I.base, I.loc, I.cell, I.free, I.freeC, I.pin, I.hok, I.len⟩
theorem Inv.unwish (I : Inv (X.wish E) pins σ H s) : Inv X pins σ H s := ⟨I.ok.unwish, I.os, I.bare, I.base, I.loc, I.cell, I.free, I.freeC, I.pin, I.hok, I.len⟩
theorem SP.unwish {D : Ends} {f : Flow} {s' : Shared} (h : SP (X.wish E) pins D f s') : SP X pins D f s' := by
  cases f with
  | next => obtain ⟨σ', H', I, q⟩ := h; exact ⟨σ', H', I.unwish, q⟩
  | brk => obtain ⟨σ', H', I, q⟩ := h; exact ⟨σ', H', I.unwish, q⟩
  | cont => obtain ⟨σ', H', I, q⟩ := h; exact ⟨σ', H', I.unwish, q⟩
  | ret u => obtain ⟨v, σ', H', I, r, q⟩ := h; exact ⟨v, σ', H', I.unwish, r, q⟩
theorem PSs.nox {st : List Stmt} {t : TS} (h : PSs X.nox st t) : PSs X st t := fun pins s σ H D I hw =>
  wpAny_mono (h pins s σ H D (I.wish _) hw) (fun _ _ q => q.unwish) fun _ _ z => False.elim z
end
section
variable {X : Cx} {st : Stmt} {rest : List Stmt} {t u : TS} {e : Expr} {te : TE} {pos : Pos}
def tNext : TS := fun D σ H => D.nx σ H
def tSeq (t u : TS) : TS := fun D σ H => t { D with nx := u D } σ H
theorem pss_nil : PSs X [] tNext := fun _ _ σ H _ I h => wpAny_execs_nil ⟨σ, H, I, h⟩
theorem pss_cons (h1 : PS X st t) (h2 : PSs X rest u) : PSs X (st :: rest) (tSeq t u) := by
  intro pins s σ H D I h
  refine wpAny_execs_cons (thn (h1 pins s σ H { D with nx := u D } I h) fun f s1 q => ?_)
  cases f with
  | next =>
    obtain ⟨σ', H', I', q⟩ := q
    exact h2 pins s1 σ' H' D I' q
  | ret v => exact q
  | brk => exact q
  | cont => exact q
theorem pss_one (h1 : PS X st t) : PSs X [st] t := by
  intro pins s σ H D I h
  refine wpAny_execs_cons (thn (h1 pins s σ H D I h) fun f s1 q => ?_)
  cases f with
  | next => exact wpAny_execs_nil q
  | ret v => exact q
  | brk => exact q
  | cont => exact q
theorem Inv.quiet {pins : List (Addr × Obj)} {σ : St} {H : Hp} {s : Shared} (I : Inv X pins σ H s) : interactive X.env = false := by simp [interactive, I.ok.kind]
def tDrop (te : TE) : TS := fun D σ H => te σ H fun _ H1 => D.nx σ H1
theorem ps_expr (he : PE X e te) (hs : swapsWith e none pos.line X.env = pure false := by rfl) : PS X (.Expr e pos) (tDrop te) := by
  intro pins s σ H D I h
  exact wpAny_Expr_any (thn (he pins s σ H _ I h) fun v s1 ⟨x, H1, I1, r1, q1⟩ => ⟨σ, H1, I1, q1⟩) I.quiet hs
def tRet (te : TE) : TS := fun D σ H => te σ H D.rt
theorem ps_ret (he : PE X e te) : PS X (.Return (some e) pos) (tRet te) := by
  intro pins s σ H D I h
  exact wpAny_Return_some (thn (he pins s σ H _ I h) fun v s1 ⟨x, H1, I1, r1, q1⟩ => ⟨x, σ, H1, I1, r1, q1⟩)
def tIfS (c : TT) (t u : TS) : TS := fun D σ H => c σ H fun b H1 => if b = true then t D σ H1 else u D σ H1
theorem ps_if {c : Expr} {a b : List Stmt} {tc : TT} (hc : PT X c tc) (ha : PSs X a t) (hb : PSs X b u) : PS X (.If c a b pos) (tIfS tc t u) := by
  intro pins s σ H D I h
  refine wpAny_If (thn (hc pins s σ H _ I h) fun d s1 ⟨H1, I1, q1⟩ => ?_)
  cases d with
  | true => exact ha pins s1 σ H1 D I1 q1
  | false => exact hb pins s1 σ H1 D I1 q1
def tNever : TS := fun _ _ _ => False
theorem pss_never {sts : List Stmt} : PSs X sts tNever := fun _ _ _ _ _ _ h => h.elim
end
abbrev TG := V → St → Hp → (St → Hp → Prop) → Prop
abbrev TGs := List V → St → Hp → (St → Hp → Prop) → Prop
def PG (X : Cx) (target : Expr) (t : TG) : Prop :=
  ∀ (pins : List (Addr × Obj)) (s : Shared) (σ : St) (H : Hp) (v : V) (u : Value) (Q : St → Hp → Prop), Inv X pins σ H s → RelV v u → t v σ H Q →
    wpAny (model X.prog X.w) X.A (assign target X.env u) (fun _ s' => ∃ σ' H', Inv X pins σ' H' s' ∧ Q σ' H') X.xe s
def PGs (X : Cx) (ts : List Expr) (t : TGs) : Prop :=
  ∀ (pins : List (Addr × Obj)) (s : Shared) (σ : St) (H : Hp) (vs : List V) (us : List Value) (Q : St → Hp → Prop), Inv X pins σ H s → Vals vs us → t vs σ H Q →
    wpAny (model X.prog X.w) X.A (assignInOrder ((assignEach ts X.env).map (·.2)) us) (fun _ s' => ∃ σ' H', Inv X pins σ' H' s' ∧ Q σ' H') X.xe s
abbrev TIp := V → V → Hp → VK → Prop
def PIp (X : Cx) (op : Operator) (t : TIp) : Prop :=
  ∀ (pins : List (Addr × Obj)) (s : Shared) (σ : St) (H : Hp) (x y : V) (v u : Value) (Q : VK), Inv X pins σ H s → RelV x v → RelV y u → t x y H Q →
    wpAny (model X.prog X.w) X.A (inplaceOp op v u) (EP X pins σ Q) X.xe s
section
variable {X : Cx} {pos : Pos}
def gName (i : Nat) : TG := fun v σ H Q => Q (σ.set i (some v)) H
theorem pg_name {i : Nat} {x : Str} (hN : X.N.Nodup) (hi : X.N[i]? = some x) (hx : Loc X.env.scope x) (hf : X.fn x = true ∨ X.env.scope.names.lookup x = some .local := by first | exact .inl rfl | exact .inr rfl | assumption) : PG X (.Name x pos) (gName i) := by
  intro pins s σ H v u Q I r h
  exact wpAny_assign_Name (store_ok I hN hi hx r (fun s' I' => ⟨_, H, I', h⟩) hf)
def gNil : TGs := fun vs σ H Q => vs = [] ∧ Q σ H
def gCons (t : TG) (u : TGs) : TGs := fun vs σ H Q => ∃ v r, vs = v :: r ∧ t v σ H fun σ' H' => u r σ' H' Q
theorem pgs_nil : PGs X [] gNil := by
  intro pins s σ H vs us Q I r h
  obtain ⟨e, h⟩ := h
  subst e
  cases r
  exact assignInOrder_nil ⟨σ, H, I, h⟩
theorem pgs_cons {e : Expr} {es : List Expr} {t : TG} {u : TGs} (h1 : PG X e t) (h2 : PGs X es u)
    (hs : (assignEach (e :: es) X.env).map (·.2) = assign e X.env :: (assignEach es X.env).map (·.2) := by rfl) : PGs X (e :: es) (gCons t u) := by
  intro pins s σ H vs us Q I r h
  obtain ⟨v, vr, e1, h⟩ := h
  subst e1
  cases r with
  | cons r rr =>
    rw [hs]
    refine assignInOrder_cons (thn (h1 pins s σ H _ _ _ I r h) fun _ s1 ⟨σ1, H1, I1, q1⟩ => ?_)
    exact h2 pins s1 σ1 H1 _ _ Q I1 rr q1
def gTup (K : PySem.W.Frag) (n : Nat) (t : TGs) : TG := fun v σ H Q => ∃ a xs, v = .ref a ∧ SqT K H a xs ∧ xs.length = n ∧ t xs σ H Q
theorem pg_tup {es : List Expr} {k : Nat} {t : TGs} {n : Nat} (hc : X.calm = true) (h : PGs X es t)
    (hn : (assignEach es X.env).length = n := by rfl) (hst : (assignEach es X.env).findIdx? (·.1) = none := by rfl) : PG X (.Tuple es k pos) (gTup X.K n t) := by
  intro pins s σ H v u Q I r hw
  obtain ⟨a, xs, e1, hq, hl, hw⟩ := hw
  subst e1
  cases r
  obtain ⟨its, rv, ht, hz⟩ := I.tuple hq
  refine assign_Tuple_tuple (I.ok.hd hc) ht (by simp [hn, ← hl, rv.length]) hst fun h' hx => ?_
  have I1 : Inv X pins σ H { s with heap := h' } := I.kept (t' := s.toks) fun b o e => hx b o (Nat.ne_of_lt (Heap.lt_size e)) e
  exact h pins _ σ H xs _ Q I1 (by simpa using rv) hw
def tAsg (te : TE) (g : TG) : TS := fun D σ H => te σ H fun x H1 => g x σ H1 D.nx
theorem ps_asg {tg e : Expr} {te : TE} {g : TG} (he : PE X e te) (hg : PG X tg g) (hs : swapsWithSole [tg] e pos.line X.env = pure false := by rfl) (hw : swappedStores [tg] e X.env = pure none := by rfl)
    (h1 : (assignEach [tg] X.env).map (·.2) = [assign tg X.env] := by rfl) : PS X (.Assign [tg] e pos) (tAsg te g) := by
  intro pins s σ H D I h
  refine wpAny_Assign_stores (thn (he pins s σ H _ I h) fun v s1 ⟨x, H1, I1, r1, q1⟩ => ?_) hs hw
  rw [h1]
  exact thn (hg pins s1 σ H1 x v _ I1 r1 q1) fun _ s2 q => q
theorem ps_set {i : Nat} {x : Str} {e : Expr} {te : TE} {pos' : Pos} (hN : X.N.Nodup) (hi : X.N[i]? = some x) (hx : Loc X.env.scope x) (he : PE X e te) (hs : swapsWith e (some (.Name x pos')) pos.line X.env = pure false := by rfl) (hf : X.fn x = true ∨ X.env.scope.names.lookup x = some .local := by first | exact .inl rfl | exact .inr rfl | assumption) :
    PS X (.Assign [.Name x pos'] e pos) (tAsg te (gName i)) := by
  intro pins s σ H D I h
  refine wpAny_Assign_Name (thn (he pins s σ H _ I h) fun v s1 ⟨y, H1, I1, r1, q1⟩ => ?_) hs
  exact store_ok I1 hN hi hx r1 (fun s2 I2 => ⟨_, H1, I2, q1⟩) hf
def tAug (i : Nat) (te : TE) (ti : TIp) : TS := fun D σ H => ∃ x, σ[i]? = some (some x) ∧ te σ H fun y H1 => ti x y H1 fun z H2 => D.nx (σ.set i (some z)) H2
theorem ps_aug {i : Nat} {x : Str} {e : Expr} {te : TE} {op : Operator} {ti : TIp} {pos' : Pos} (hN : X.N.Nodup) (hi : X.N[i]? = some x) (hx : Loc X.env.scope x) (he : PE X e te) (ho : PIp X op ti) (hf : X.fn x = true ∨ X.env.scope.names.lookup x = some .local := by first | exact .inl rfl | exact .inr rfl | assumption) :
    PS X (.AugAssign (.Name x pos') op e pos) (tAug i te ti) := by
  intro pins s σ H D I h
  obtain ⟨v, e1, h⟩ := h
  obtain ⟨m, hn, hl⟩ := I.loc
  have vis : Vis X.env.scope x := by rcases hx with k | k; exact .inl k; exact .inr (.inl k)
  obtain ⟨u, r, l⟩ := hl i x v hi e1 vis
  refine wpAny_AugAssign_Name ?_
  have go : wpAny (model X.prog X.w) X.A (eval e X.env) (fun w s₂ => wpAny (model X.prog X.w) X.A (inplaceOp op u w) (fun r s₃ => wpAny (model X.prog X.w) X.A (storeName X.env x r) (fun _ => SP X pins D .next) X.xe s₃) X.xe s₂) X.xe s := by
    refine thn (he pins s σ H _ I h) fun w s1 ⟨y, H1, I1, r1, q1⟩ => ?_
    refine thn (ho pins s1 σ H1 v y u w _ I1 r r1 q1) fun z s2 ⟨zv, H2, I2, r2, q2⟩ => ?_
    exact store_ok I2 hN hi hx r2 (fun s3 I3 => ⟨_, H2, I3, q2⟩) hf
  rcases l with ⟨hk, hm⟩ | ⟨hk, c, hc, hcell⟩
  · exact wpAny_loadName_local I.ok.kind hk hn hm go
  · rcases hk with hk | hk
    · exact wpAny_loadName_cell I.ok.kind hk hc hcell go
    · rcases hx with k | k
      · have : X.env.scope.names.lookup x = some .free := hk
        rw [k] at this; cases this
      · have : X.env.scope.names.lookup x = some .free := hk
        rw [k] at this; cases this
def ipI (f : Int → Int → Int) : TIp := fun x y H Q => ∃ i j, x = .int i ∧ y = .int j ∧ Q (.int (f i j)) H
theorem ip_add : PIp X .Add (ipI fun i j => i + j) := by
  intro pins s σ H x y v u Q I r1 r2 h
  obtain ⟨i, j, e1, e2, q⟩ := h
  subst e1; subst e2
  obtain ⟨t, rfl⟩ := r1
  obtain ⟨t', rfl⟩ := r2
  exact iadd_int ⟨.int _, H, I.tok _, ⟨_, rfl⟩, q⟩
end
section
variable {X : Cx} {pos : Pos}
end
structure It where
  go : Nat → Hp → Prop
  yld : Nat → Hp → V → Hp → Prop
  stop : Nat → Hp → Prop
def FpOk (X : Cx) (pins : List (Addr × Obj)) (H : Hp) (b : Addr) : Prop :=
  H b = none ∧ b ≠ X.env.locals ∧ b ∉ X.fs ∧ (b ∈ X.ex ∨ X.s₀.heap.objs.size ≤ b) ∧ (∀ x c, X.env.cells.lookup x = some c → c ≠ b) ∧ ∀ p ∈ X.pn ++ pins, p.1 ≠ b
theorem Inv.fpOk {X : Cx} {pins : List (Addr × Obj)} {σ : St} {H H' : Hp} {s : Shared} {b : Addr} (I : Inv X pins σ H s) (hb : s.heap.objs.size ≤ b) (hn : H' b = none) : FpOk X pins H' b := by
  refine ⟨hn, Nat.ne_of_gt (Nat.lt_of_lt_of_le I.lt hb), I.nofs hb, .inr (Nat.le_trans I.sz hb), fun x c e z => ?_, fun p hp z => ?_⟩
  · obtain ⟨v, q⟩ := I.cell x c e
    exact absurd (Nat.lt_of_lt_of_le q.lt (by rw [z]; exact hb)) (Nat.lt_irrefl _)
  · exact absurd (Nat.lt_of_lt_of_le (Heap.lt_size (I.pin p hp).1) (by rw [z]; exact hb)) (Nat.lt_irrefl _)
structure Turn (P : Program) (w : World) (K : PySem.W.Frag) (tg : Expr) (J : It) (fp : List Addr) (it : Addr) (tn : Nat → Heap → Prop) : Prop where
  mem : it ∈ fp
  obj : ∀ i h, tn i h → ∀ b ∈ fp, ∃ o, h.get? b = some o ∧ ∀ v, o.data ≠ .cell v
  keep : ∀ i h h', tn i h → (∀ b ∈ fp, ∀ o, h.get? b = some o → h'.get? b = some o) → tn i h'
  item : ∀ (X : Cx), X.prog = P → X.w = w → X.K = K → X.calm = true → ∀ (i : Nat) (pins : List (Addr × Obj)) (s : Shared) (σ : St) (H : Hp) (E : Value → Shared → Prop), Inv X pins σ H s → (∀ b ∈ fp, FpOk X pins H b) → tn i s.heap → J.go i H →
    wpAny (model P w) X.A (pyNext (.ref it)) (fun r s1 => ∃ u, r = some u ∧
      wpAny (model P w) X.A (letOwnedTupleGo tg (.ref it) u) (fun _ s2 => ∃ x H', Inv X pins σ H' s2 ∧ RelV x u ∧ J.yld i H x H' ∧ tn (i + 1) s2.heap ∧ ∀ b ∈ fp, H' b = none) E s1) E s
  done : ∀ (X : Cx), X.prog = P → X.w = w → X.K = K → X.calm = true → ∀ (i : Nat) (pins : List (Addr × Obj)) (s : Shared) (σ : St) (H : Hp) (E : Value → Shared → Prop), Inv X pins σ H s → (∀ b ∈ fp, FpOk X pins H b) → tn i s.heap → J.stop i H →
    wpAny (model P w) X.A (pyNext (.ref it)) (fun r s1 => r = none ∧ Inv X pins σ H s1) E s
  self : ∀ (A : Around) (i : Nat) (s : Shared) (Q : Value → Shared → Prop) (E : Value → Shared → Prop), tn i s.heap → Q (.ref it) s → wpAny (model P w) A (pyIter (.ref it)) Q E s
abbrev TI := St → Hp → (It → Hp → Prop) → Prop
def PIE (X : Cx) (pins : List (Addr × Obj)) (σ : St) (tg : Expr) (R : It → Hp → Prop) (itv : Value) (s2 : Shared) : Prop :=
  ∃ (it : Addr) (fp : List Addr) (tn : Nat → Heap → Prop) (J : It) (H' : Hp), itv = .ref it ∧ Inv X pins σ H' s2 ∧ Turn X.prog X.w X.K tg J fp it tn ∧ tn 0 s2.heap ∧ (∀ b ∈ fp, FpOk X pins H' b) ∧ R J H'
def PI (X : Cx) (tg iter : Expr) (wi : TI) : Prop :=
  ∀ (pins : List (Addr × Obj)) (s : Shared) (σ : St) (H : Hp) (R : It → Hp → Prop), Inv X pins σ H s → wi σ H R →
    wpAny (model X.prog X.w) X.A (eval iter X.env) (fun v s1 => wpAny (model X.prog X.w) X.A (pyIter v) (PIE X pins σ tg R) X.xe s1) X.xe s
theorem go_of {M : Model} {A : Around} {E : Value → Shared → Prop} {s : Shared} {tg : Expr} {it : Addr} {u : Value} {o : Obj} {n : String} {vs : Array Value} {Q : Unit → Shared → Prop} (ho : s.heap.get? it = some o) (hc : o.cls = .type n) (hd : o.data = .fields vs)
    (hn : ["enumerate", "zip", "dict_itemiterator", "dict_reverseitemiterator", "odict_iterator", "itertools.zip_longest", "itertools.pairwise"].contains n = false) (hQ : Q () s) : wpAny M A (letOwnedTupleGo tg (.ref it) u) Q E s := by
  unfold letOwnedTupleGo
  cases tg <;> first
    | exact wpAny_pure hQ
    | (cases u <;> first
        | exact wpAny_pure hQ
        | (refine wpAny_bind (wpAny_load ho ?_)
           rw [hc, hd]
           show wpAny M A (if (["enumerate", "zip", "dict_itemiterator", "dict_reverseitemiterator", "odict_iterator", "itertools.zip_longest", "itertools.pairwise"].contains n && vs[0]? == some (rawInt _)) = true then _ else _) Q E s
           rw [if_neg (by intro h; rw [hn, Bool.false_and] at h; cases h)]
           exact wpAny_pure hQ))
def Itl (K : PySem.W.Frag) (a : Addr) : It :=
  ⟨fun i H => ∃ xs x, SqL K H a xs ∧ xs[i]? = some x, fun i H x H' => H' = H ∧ ∀ xs, SqL K H a xs → xs[i]? = some x, fun i H => ∃ xs, SqL K H a xs ∧ xs.length ≤ i⟩
def Itr (lo : Int) (n : Nat) : It := ⟨fun i _ => i < n, fun i H x H' => H' = H ∧ x = .int (lo + i), fun i _ => n ≤ i⟩
theorem turn_list {P : Program} {w : World} {K : PySem.W.Frag} {tg : Expr} (a it : Addr) : Turn P w K tg (Itl K a) [it] it (fun i h => h.IsListIter it a i) where
  mem := by simp
  obj := fun i h st b hb => by
    have e : b = it := by simpa using hb
    subst e
    obtain ⟨o, e, c, d⟩ := st
    exact ⟨o, e, fun v z => by rw [d] at z; cases z⟩
  keep := fun i h h' st k => st.at fun o e => k it (by simp) o e
  item := by
    intro X hP hw hK hc i pins s σ H E I hf st hg
    subst hP hw hK
    obtain ⟨xs, x, hq, hx⟩ := hg
    obtain ⟨its, rv, p, hz⟩ := I.list hq
    obtain ⟨u, hu, ru⟩ := rv.get hx
    obtain ⟨f0, f1, f2, f3, f4, f5⟩ := hf it (by simp)
    refine wpAny_pyNext_list_item st p.isList (x := u) (by simpa using hu) fun h' st' sb => ?_
    have I1 : Inv X pins σ H { s with heap := h' } := I.turned (t' := s.toks) (fun b o hb e => (sb.2 b hb).trans e) f0 f1 f3 f4 f5
    obtain ⟨o, e, c, d⟩ := id st'
    exact ⟨u, rfl, go_of (s := { s with heap := h' }) e c d (by decide) ⟨x, H, I1, ru, ⟨rfl, fun ys hy => by rw [I.list_inj hy hq]; exact hx⟩, st', fun b hb => (hf b hb).1⟩⟩
  done := by
    intro X hP hw hK hc i pins s σ H E I hf st hg
    subst hP hw hK
    obtain ⟨xs, hq, hx⟩ := hg
    obtain ⟨its, rv, p, hz⟩ := I.list hq
    obtain ⟨f0, f1, f2, f3, f4, f5⟩ := hf it (by simp)
    have hl := rv.length
    exact wpAny_pyNext_list_end (I.ok.hd hc) st p.isList (by simp; omega) fun h' eb => ⟨rfl, I.turned (t' := s.toks) (fun b o hb e => eb b o hb e) f0 f1 f3 f4 f5⟩
  self := fun _ _ _ _ _ st h => wpAny_pyIter_listiter st h
theorem turn_range {P : Program} {w : World} {K : PySem.W.Frag} {tg : Expr} (it : Addr) (lo : Int) (n : Nat) : Turn P w K tg (Itr lo n) [it] it (fun i h => IsRangeIter h it (lo + (i : Nat) * 1) ((n : Int) - (i : Nat)) 1) where
  mem := by simp
  obj := fun i h st b hb => by
    have e : b = it := by simpa using hb
    subst e
    exact ⟨_, st, fun v z => by
      have z' : Data.fields _ = Data.cell v := z
      cases z'⟩
  keep := fun i h h' st k => k it (by simp) _ st
  item := by
    intro X hP hw hK hc i pins s σ H E I hf st hg
    subst hP hw hK
    obtain ⟨f0, f1, f2, f3, f4, f5⟩ := hf it (by simp)
    have W := Walks.range (prog := X.prog) (w := X.w) (I.ok.hd hc) it lo 1 n
    refine W.item i s _ _ hg st fun v h' tk hv st' kk => ?_
    obtain ⟨t, rfl⟩ := hv
    have I1 : Inv X pins σ H { s with heap := h', toks := tk } := I.turned (fun b o hb e => kk b o (by simpa using hb) e) f0 f1 f3 f4 f5
    refine ⟨_, rfl, go_of (s := { s with heap := h', toks := tk }) (n := "range_iterator") st' rfl rfl (by decide) ⟨.int (lo + i), H, I1, ⟨t, ?_⟩, ⟨rfl, rfl⟩, st', fun b hb => (hf b hb).1⟩⟩
    rw [Int.mul_one]
  done := by
    intro X hP hw hK hc i pins s σ H E I hf st hg
    subst hP hw hK
    obtain ⟨f0, f1, f2, f3, f4, f5⟩ := hf it (by simp)
    exact wpAny_pyNext_range_end (I.ok.hd hc) st (by have : n ≤ i := hg; omega) fun h' eb => ⟨rfl, I.turned (t' := s.toks) (fun b o hb e => eb b o hb e) f0 f1 f3 f4 f5⟩
  self := fun _ _ _ _ _ st h => wpAny_pyIter_rangeiter st h
end L2
namespace L2
open PySem PySem.Spec PyProof.Rows
section
variable {X : Cx} {tg : Expr}
def iList (K : PySem.W.Frag) (tl : TE) : TI := fun σ H R => tl σ H fun x H1 => ∃ a, x = .ref a ∧ (∃ xs, SqL K H1 a xs) ∧ R (Itl K a) H1
theorem pi_list {l : Expr} {tl : TE} (hl : PE X l tl) : PI X tg l (iList X.K tl) := by
  intro pins s σ H R I h
  refine thn (hl pins s σ H _ I h) fun v s1 ⟨x, H1, I1, r1, q1⟩ => ?_
  obtain ⟨a, e, ⟨xs, hq⟩, q⟩ := q1
  subst e
  cases r1
  obtain ⟨its, rv, p, hz⟩ := I1.list hq
  refine wpAny_pyIter_list p.isList ?_
  refine ⟨s1.heap.objs.size, [s1.heap.objs.size], _, _, H1, rfl, I1.kept (t' := s1.toks) fun b o e => Heap.get?_push_of_some _ e, turn_list a _, ⟨_, Heap.get?_push_size _ rfl, rfl, rfl⟩, fun b hb => ?_, q⟩
  have e : b = s1.heap.objs.size := by simpa using hb
  subst e
  exact I1.fpOk (Nat.le_refl _) (I1.hok.fresh (Nat.le_refl _))
theorem range_it {pins : List (Addr × Obj)} {σ : St} {H : Hp} {s : Shared} {R : It → Hp → Prop} {E : Value → Shared → Prop} {lo hi : Int} {t u v : Tok} {tk : Nat} (I : Inv X pins σ H s) (h1 : -(2 ^ 62) ≤ lo) (h2 : lo < 2 ^ 62) (h3 : -(2 ^ 62) ≤ hi) (h4 : hi < 2 ^ 62)
    (q : R (Itr lo (hi - lo).toNat) H) : wpAny (model X.prog X.w) X.A (pyIter (.ref s.heap.objs.size)) (PIE X pins σ tg R) E { s with heap := s.heap.push { cls := .type "range", data := .fields #[.int lo t, .int hi u, .int 1 v] }, toks := tk } := by
  refine wpAny_pyIter_range (IsRange.new ..) (small_one h1 h2 h3 h4) ?_
  have I1 : Inv X pins σ H { s with heap := s.heap.push { cls := .type "range", data := .fields #[.int lo t, .int hi u, .int 1 v] }, toks := tk } := I.kept fun b o e => Heap.get?_push_of_some _ e
  refine ⟨(s.heap.push { cls := .type "range", data := .fields #[.int lo t, .int hi u, .int 1 v] }).objs.size, [(s.heap.push { cls := .type "range", data := .fields #[.int lo t, .int hi u, .int 1 v] }).objs.size], _, _, H, rfl,
    I1.kept (t' := tk) fun b o e => Heap.get?_push_of_some _ e, turn_range _ lo (hi - lo).toNat, ?_, fun b hb => ?_, q⟩
  · have e1 : lo + ((0 : Nat) : Int) * 1 = lo := by simp
    have e2 : (((hi - lo).toNat : Nat) : Int) - ((0 : Nat) : Int) = Builtin.Range.rangeSize lo hi 1 := by rw [rangeSize_one]; split <;> omega
    show IsRangeIter _ _ (lo + ((0 : Nat) : Int) * 1) ((((hi - lo).toNat : Nat) : Int) - ((0 : Nat) : Int)) 1
    rw [e1, e2]
    exact Heap.get?_push_size _ rfl
  · have e : b = (s.heap.push { cls := .type "range", data := .fields #[.int lo t, .int hi u, .int 1 v] }).objs.size := by simpa using hb
    subst e
    exact I1.fpOk (Nat.le_refl _) (I1.hok.fresh (Nat.le_refl _))
def iRng1 (ta : TA) : TI := fun σ H R => ta σ H fun vs H1 => ∃ j : Int, vs = [.int j] ∧ -(2 ^ 62) ≤ j ∧ j < 2 ^ 62 ∧ R (Itr 0 j.toNat) H1
def iRng2 (ta : TA) : TI := fun σ H R => ta σ H fun vs H1 => ∃ i j : Int, vs = [.int i, .int j] ∧ (-(2 ^ 62) ≤ i ∧ i < 2 ^ 62 ∧ -(2 ^ 62) ≤ j ∧ j < 2 ^ 62) ∧ R (Itr i (j - i).toNat) H1
theorem pi_range1 {a : Expr} {ta : TA} {p pos : Pos} (hg : Gl X "range") (hm : X.mg "range" = none) (ha : PA X [a] ta) (hs : starEach [a] X.env = [(false, eval a X.env)] := by rfl) : PI X tg (.Call (.Name "range" p) [a] [] pos) (iRng1 ta) := by
  intro pins s σ H R I h
  refine Call_ (ld_blt I hg hm boot_range (PyProof.Rows.callWith_type1 (thn (ha pos pins s σ H _ I h) fun us s1 ⟨vs, H1, I1, r1, q1⟩ => ?_) hs rfl))
  obtain ⟨j, e, q1, q2, q⟩ := q1
  subst e
  cases r1 with
  | cons r rr =>
    cases rr
    obtain ⟨t, rfl⟩ := r
    exact call_range_1 (range_it I1 (by omega) (by omega) q1 q2 (by simpa using q))
theorem pi_range2 {a b : Expr} {ta : TA} {p pos : Pos} (hg : Gl X "range") (hm : X.mg "range" = none) (ha : PA X [a, b] ta) (hs : starEach [a, b] X.env = [(false, eval a X.env), (false, eval b X.env)] := by rfl) (hs2 : starEach [b] X.env = [(false, eval b X.env)] := by rfl) :
    PI X tg (.Call (.Name "range" p) [a, b] [] pos) (iRng2 ta) := by
  intro pins s σ H R I h
  refine Call_ (ld_blt I hg hm boot_range (PyProof.Rows.callWith_type1 (thn (ha pos pins s σ H _ I h) fun us s1 ⟨vs, H1, I1, r1, q1⟩ => ?_) (by rw [hs, hs2]) (by rw [hs2]; rfl)))
  obtain ⟨i, j, e, ⟨q1, q2, q3, q4⟩, q⟩ := q1
  subst e
  cases r1 with
  | cons r rr =>
    cases rr with
    | cons r' rr =>
      cases rr
      obtain ⟨t, rfl⟩ := r
      obtain ⟨t', rfl⟩ := r'
      exact call_range_2 (range_it I1 q1 q2 q3 q4 q)
def tFor (wi : TI) (g : TG) (tb : TS) : TS := fun D σ H => wi σ H fun J H1 => ∃ W : Nat → Nat → St → Hp → Prop, (∃ m, W 0 m σ H1) ∧ ∀ i m σ H, W i m σ H →
  (J.stop i H ∧ D.nx σ H) ∨ (J.go i H ∧ ∃ N : St → Hp → Prop, (∀ σ' H', N σ' H' → ∃ m', m' < m ∧ W (i + 1) m' σ' H') ∧ ∀ x H', J.yld i H x H' → g x σ H' fun σ2 H2 => tb { D with nx := N, ct := N, bk := D.nx } σ2 H2)
def pinsAt (fp : List Addr) (h : Heap) : List (Addr × Obj) := fp.filterMap fun b => (h.get? b).map fun o => (b, o)
theorem mem_pinsAt {fp : List Addr} {h : Heap} {b : Addr} {o : Obj} (hb : b ∈ fp) (e : h.get? b = some o) : (b, o) ∈ pinsAt fp h := List.mem_filterMap.mpr ⟨b, hb, by rw [e]; rfl⟩
theorem of_pinsAt {fp : List Addr} {h : Heap} {p : Addr × Obj} (hp : p ∈ pinsAt fp h) : p.1 ∈ fp ∧ h.get? p.1 = some p.2 := by
  obtain ⟨b, hb, e⟩ := List.mem_filterMap.mp hp
  cases q : h.get? b with
  | none => rw [q] at e; cases e
  | some o =>
    rw [q] at e
    have e' : (b, o) = p := Option.some.inj e
    subst e'
    exact ⟨hb, q⟩
theorem Inv.pinned {pins : List (Addr × Obj)} {σ : St} {H : Hp} {s : Shared} {fp : List Addr} (I : Inv X pins σ H s) (hf : ∀ b ∈ fp, FpOk X pins H b) (ho : ∀ b ∈ fp, ∃ o, s.heap.get? b = some o ∧ ∀ v, o.data ≠ .cell v) : Inv X (pins ++ pinsAt fp s.heap) σ H s :=
  I.pins_of fun p hp => (List.mem_append.mp hp).elim (fun z => I.pin p (List.mem_append_right _ z)) fun z => by
    obtain ⟨hb, e⟩ := of_pinsAt z
    obtain ⟨f0, f1, f2, _⟩ := hf p.1 hb
    obtain ⟨o, e', d⟩ := ho p.1 hb
    rw [e] at e'; cases e'
    exact ⟨e, f0, f1, f2, d⟩
theorem Inv.unpinned {pins pl : List (Addr × Obj)} {σ : St} {H : Hp} {s : Shared} (I : Inv X (pins ++ pl) σ H s) : Inv X pins σ H s := I.pins_of fun p hp => I.pin p (List.mem_append_right _ (List.mem_append_left _ hp))
theorem ps_for {iter : Expr} {body : List Stmt} {wi : TI} {g : TG} {tb : TS} {pos : Pos} (hp : PassesOwn (model X.prog X.w) X.A X.env X.xe) (hc : X.calm = true) (hi : PI X tg iter wi) (hg : PG X tg g) (hb : PSs X body tb)
    (hs : ∀ x, foldedSetIterable iter X.env x = pure x := by intro _; rfl) : PS X (.For tg iter body [] pos) (tFor wi g tb) := by
  intro pins s σ H D I h
  refine wpAny_For (thn (hi pins s σ H _ I h) fun v s1 h1 => thn h1 fun itv s2 h2 => ?_) hs
  obtain ⟨it, fp, tn, J, H2, e, I2, T, st2, f2, W, ⟨m0, w0⟩, turn⟩ := h2
  subst e
  -- what stays true of the iterator's objects through the loop
  have stat : ∀ {H' : Hp}, (∀ b ∈ fp, H' b = none) → ∀ b ∈ fp, FpOk X pins H' b := fun hn b hb => ⟨hn b hb, (f2 b hb).2⟩
  refine codeAny_forLoop_any (fun n s' => ∃ i σ' H', Inv X pins σ' H' s' ∧ tn i s'.heap ∧ (∀ b ∈ fp, H' b = none) ∧ W i n σ' H') ?_ m0 ⟨0, σ, H2, I2, st2, fun b hb => (f2 b hb).1, w0⟩
  rintro n s3 ⟨i, σ3, H3, I3, st3, fr3, w3⟩
  rcases turn i n σ3 H3 w3 with ⟨stop, qn⟩ | ⟨go, N, hN, step⟩
  · refine wpAny_passesOwn hp (thn (T.done X rfl rfl rfl hc i pins s3 σ3 H3 X.xe I3 (stat fr3) st3 stop) fun r s4 ⟨hr, I4⟩ => ?_)
    subst hr
    exact wpAny_execs_nil ⟨σ3, H3, I4, qn⟩
  · refine wpAny_passesOwn hp (thn (T.item X rfl rfl rfl hc i pins s3 σ3 H3 X.xe I3 (stat fr3) st3 go) fun r s4 ⟨u, hr, h4⟩ => ?_)
    subst hr
    refine wpAny_passesOwn hp (thn h4 fun _ s5 ⟨x, H5, I5, r5, y5, st5, fr5⟩ => ?_)
    have I5' := I5.pinned (stat fr5) (T.obj _ _ st5)
    refine wpAny_passesOwn hp (thn (hg _ s5 σ3 H5 x u _ I5' r5 (step x H5 y5)) fun _ s6 ⟨σ6, H6, I6, q6⟩ => ?_)
    refine wpAny_passesOwn hp (thn (hb _ s6 σ6 H6 _ I6 q6) fun f s7 q7 => ?_)
    have again : ∀ {σ7 : St} {H7 : Hp}, Inv X (pins ++ pinsAt fp s5.heap) σ7 H7 s7 → N σ7 H7 → ∃ m, m < n ∧ ∃ i σ' H', Inv X pins σ' H' s7 ∧ tn i s7.heap ∧ (∀ b ∈ fp, H' b = none) ∧ W i m σ' H' := fun {σ7 H7} I7 n7 => by
      obtain ⟨m', hm, w7⟩ := hN σ7 H7 n7
      refine ⟨m', hm, i + 1, σ7, H7, I7.unpinned, T.keep _ _ _ st5 fun b hb o e => (I7.pin (b, o) (List.mem_append_right _ (List.mem_append_right _ (mem_pinsAt hb e)))).1, fun b hb => ?_, w7⟩
      obtain ⟨o, e, d⟩ := T.obj _ _ st5 b hb
      exact (I7.pin (b, o) (List.mem_append_right _ (List.mem_append_right _ (mem_pinsAt hb e)))).2.1
    cases f with
    | next => obtain ⟨σ7, H7, I7, n7⟩ := q7; exact again I7 n7
    | cont => obtain ⟨σ7, H7, I7, n7⟩ := q7; exact again I7 n7
    | brk => obtain ⟨σ7, H7, I7, q7⟩ := q7; exact ⟨σ7, H7, I7.unpinned, q7⟩
    | ret v => obtain ⟨x7, σ7, H7, I7, r7, q7⟩ := q7; exact ⟨x7, σ7, H7, I7.unpinned, r7, q7⟩
end
theorem for_list {K : PySem.W.Frag} {a : Addr} {xs : List V} {g : TG} {tb : TS} {D : Ends} {σ : St} {H : Hp} (Pv : Nat → St → Hp → Prop) (h0 : Pv 0 σ H) (hl : ∀ i σ H, i ≤ xs.length → Pv i σ H → SqL K H a xs)
    (hs : ∀ i x σ H, xs[i]? = some x → Pv i σ H → g x σ H fun σ2 H2 => tb { D with nx := Pv (i + 1), ct := Pv (i + 1), bk := D.nx } σ2 H2) (hd : ∀ σ H, Pv xs.length σ H → D.nx σ H) :
    ∃ W : Nat → Nat → St → Hp → Prop, (∃ m, W 0 m σ H) ∧ ∀ i m σ H, W i m σ H →
      ((Itl K a).stop i H ∧ D.nx σ H) ∨ ((Itl K a).go i H ∧ ∃ N : St → Hp → Prop, (∀ σ' H', N σ' H' → ∃ m', m' < m ∧ W (i + 1) m' σ' H') ∧ ∀ x H', (Itl K a).yld i H x H' → g x σ H' fun σ2 H2 => tb { D with nx := N, ct := N, bk := D.nx } σ2 H2) := by
  refine ⟨fun i m σ H => m = xs.length - i ∧ i ≤ xs.length ∧ Pv i σ H, ⟨xs.length, by simp, Nat.zero_le _, h0⟩, ?_⟩
  rintro i m σ H ⟨rfl, hi, p⟩
  have q := hl i σ H hi p
  by_cases hlt : i < xs.length
  · refine .inr ⟨⟨xs, xs[i], q, by simp [hlt]⟩, Pv (i + 1), fun σ' H' p' => ⟨xs.length - (i + 1), by omega, rfl, hlt, p'⟩, fun x H' y => ?_⟩
    obtain ⟨e, y⟩ := y
    subst e
    exact hs i x σ _ (y xs q) p
  · have e : i = xs.length := by omega
    subst e
    exact .inl ⟨⟨xs, q, Nat.le_refl _⟩, hd σ H p⟩
theorem for_range {lo : Int} {n : Nat} {g : TG} {tb : TS} {D : Ends} {σ : St} {H : Hp} (Pv : Nat → St → Hp → Prop) (h0 : Pv 0 σ H)
    (hs : ∀ i σ H, i < n → Pv i σ H → g (.int (lo + i)) σ H fun σ2 H2 => tb { D with nx := Pv (i + 1), ct := Pv (i + 1), bk := D.nx } σ2 H2) (hd : ∀ σ H, Pv n σ H → D.nx σ H) :
    ∃ W : Nat → Nat → St → Hp → Prop, (∃ m, W 0 m σ H) ∧ ∀ i m σ H, W i m σ H →
      ((Itr lo n).stop i H ∧ D.nx σ H) ∨ ((Itr lo n).go i H ∧ ∃ N : St → Hp → Prop, (∀ σ' H', N σ' H' → ∃ m', m' < m ∧ W (i + 1) m' σ' H') ∧ ∀ x H', (Itr lo n).yld i H x H' → g x σ H' fun σ2 H2 => tb { D with nx := N, ct := N, bk := D.nx } σ2 H2) := by
  refine ⟨fun i m σ H => m = n - i ∧ i ≤ n ∧ Pv i σ H, ⟨n, by simp, Nat.zero_le _, h0⟩, ?_⟩
  rintro i m σ H ⟨rfl, hi, p⟩
  by_cases hlt : i < n
  · refine .inr ⟨hlt, Pv (i + 1), fun σ' H' p' => ⟨n - (i + 1), by omega, rfl, hlt, p'⟩, fun x H' y => ?_⟩
    obtain ⟨e, y⟩ := y
    subst e y
    exact hs i σ _ hlt p
  · have e : i = n := by omega
    subst e
    exact .inl ⟨Nat.le_refl _, hd σ H p⟩
end L2
namespace L2
open PySem PySem.Spec PyProof.Rows
abbrev R2 := V → V → Hp → VK → Prop
def OpR (X : Cx) (f : Value → Value → Sem Value) (r : R2) : Prop :=
  ∀ (pins : List (Addr × Obj)) (s : Shared) (σ : St) (H : Hp) (x y : V) (v u : Value) (Q : VK), Inv X pins σ H s → RelV x v → RelV y u → r x y H Q →
    wpAny (model X.prog X.w) X.A (f v u) (EP X pins σ Q) X.xe s
def UnR (X : Cx) (f : Value → Sem Value) (r : V → Hp → VK → Prop) : Prop :=
  ∀ (pins : List (Addr × Obj)) (s : Shared) (σ : St) (H : Hp) (x : V) (v : Value) (Q : VK), Inv X pins σ H s → RelV x v → r x H Q →
    wpAny (model X.prog X.w) X.A (f v) (EP X pins σ Q) X.xe s
def CallR (X : Cx) (f : Value) (r : List V → Hp → VK → Prop) : Prop :=
  ∀ (pins : List (Addr × Obj)) (s : Shared) (σ : St) (H : Hp) (xs : List V) (us : List Value) (Q : VK), Inv X pins σ H s → Vals xs us → r xs H Q →
    wpAny (model X.prog X.w) X.A (call f us) (EP X pins σ Q) X.xe s
def tOp (r : R2) (ta tb : TE) : TE := fun σ H Q => ta σ H fun x H1 => tb σ H1 fun y H2 => r x y H2 Q
def tUn (r : V → Hp → VK → Prop) (ta : TE) : TE := fun σ H Q => ta σ H fun x H1 => r x H1 Q
def rI (C : Int → Int → Prop) (g : Int → Int → V) : R2 := fun x y H Q => ∃ i j, x = .int i ∧ y = .int j ∧ C i j ∧ Q (g i j) H
def rI0 (g : Int → Int → V) : R2 := fun x y H Q => ∃ i j, x = .int i ∧ y = .int j ∧ Q (g i j) H
def rU (g : Int → V) : V → Hp → VK → Prop := fun x H Q => ∃ i, x = .int i ∧ Q (g i) H
section
variable {X : Cx} {a b c : Expr} {ta tb tc : TE} {pos : Pos}
theorem binT (ha : PE X a ta) (hb : PE X b tb) {pins : List (Addr × Obj)} {s : Shared} {σ : St} {H : Hp} {R : V → V → Hp → Prop} (I : Inv X pins σ H s)
    (h : ta σ H fun x H1 => tb σ H1 fun y H2 => R x y H2) {Q : Value → Shared → Prop} {f : Value → Value → Sem Value}
    (hf : ∀ v u s2 x y H2, Inv X pins σ H2 s2 → RelV x v → RelV y u → R x y H2 → wpAny (model X.prog X.w) X.A (f v u) Q X.xe s2) :
    wpAny (model X.prog X.w) X.A (eval a X.env) (fun v s₁ => wpAny (model X.prog X.w) X.A (eval b X.env) (fun u s₂ => wpAny (model X.prog X.w) X.A (f v u) Q X.xe s₂) X.xe s₁) X.xe s := by
  refine thn (ha pins s σ H _ I h) fun v s1 ⟨x, H1, I1, r1, q1⟩ => ?_
  refine thn (hb pins s1 σ H1 _ I1 q1) fun u s2 ⟨y, H2, I2, r2, q2⟩ => ?_
  exact hf v u s2 x y H2 I2 r1 r2 q2
theorem pe_op {op : Operator} {r : R2} (ho : OpR X (binaryOp op) r) (ha : PE X a ta) (hb : PE X b tb) : PE X (.BinOp a op b pos) (tOp r ta tb) := by
  intro pins s σ H Q I h
  exact wpAny_BinOp (binT ha hb I h fun v u s2 x y H2 I2 rx ry q => ho pins s2 σ H2 x y v u Q I2 rx ry q)
theorem pe_un {op : UnaryOp} {r : V → Hp → VK → Prop} (ho : UnR X (unaryOp op) r) (ha : PE X a ta) : PE X (.UnaryOp op a pos) (tUn r ta) := by
  intro pins s σ H Q I h
  exact UnaryOp_ (thn (ha pins s σ H _ I h) fun v s1 ⟨x, H1, I1, r1, q1⟩ => ho pins s1 σ H1 x v Q I1 r1 q1)
theorem opI {f : Value → Value → Sem Value} {C : Int → Int → Prop} {g : Int → Int → Int}
    (rule : ∀ (i j : Int) (t u : Tok) (s : Shared) (Q : Value → Shared → Prop) (E : Value → Shared → Prop), C i j → Q (.int (g i j) s.toks) { s with toks := s.toks + 1 } → wpAny (model X.prog X.w) X.A (f (.int i t) (.int j u)) Q E s) :
    OpR X f (rI C fun i j => .int (g i j)) := by
  intro pins s σ H x y v u Q I rx ry h
  obtain ⟨i, j, rfl, rfl, hc, q⟩ := h
  obtain ⟨t, rfl⟩ := rx
  obtain ⟨t', rfl⟩ := ry
  exact rule i j t t' s _ _ hc ⟨.int (g i j), H, I.tok _, ⟨_, rfl⟩, q⟩
theorem opI0 {f : Value → Value → Sem Value} {g : Int → Int → Int}
    (rule : ∀ (i j : Int) (t u : Tok) (s : Shared) (Q : Value → Shared → Prop) (E : Value → Shared → Prop), Q (.int (g i j) s.toks) { s with toks := s.toks + 1 } → wpAny (model X.prog X.w) X.A (f (.int i t) (.int j u)) Q E s) :
    OpR X f (rI0 fun i j => .int (g i j)) := by
  intro pins s σ H x y v u Q I rx ry h
  obtain ⟨i, j, rfl, rfl, q⟩ := h
  obtain ⟨t, rfl⟩ := rx
  obtain ⟨t', rfl⟩ := ry
  exact rule i j t t' s _ _ ⟨.int (g i j), H, I.tok _, ⟨_, rfl⟩, q⟩
theorem opB0 {f : Value → Value → Sem Value} {g : Int → Int → Bool}
    (rule : ∀ (i j : Int) (t u : Tok) (s : Shared) (Q : Value → Shared → Prop) (E : Value → Shared → Prop), Q (.bool (g i j)) s → wpAny (model X.prog X.w) X.A (f (.int i t) (.int j u)) Q E s) :
    OpR X f (rI0 fun i j => .bl (g i j)) := by
  intro pins s σ H x y v u Q I rx ry h
  obtain ⟨i, j, rfl, rfl, q⟩ := h
  obtain ⟨t, rfl⟩ := rx
  obtain ⟨t', rfl⟩ := ry
  exact rule i j t t' s _ _ ⟨.bl (g i j), H, I, rfl, q⟩
def CDiv (i j : Int) : Prop := 0 < j ∧ j < 1073741824
def CPow (i j : Int) : Prop := 0 ≤ j ∧ j ≤ 1000000 ∧ i.natAbs < 2 ^ 64
def CMul (i j : Int) : Prop := (-(2 ^ 64) < i ∧ i < 2 ^ 64) ∨ (-(2 ^ 64) < j ∧ j < 2 ^ 64)
theorem CMul.ok {i j : Int} (h : CMul i j) : IntMulOk i j := by
  rcases h with ⟨h1, h2⟩ | ⟨h1, h2⟩
  · exact .of_left (intBits_le_64 h1 h2)
  · exact .of_right (intBits_le_64 h1 h2)
theorem op_add : OpR X (binaryOp .Add) (rI0 fun i j => .int (i + j)) := opI0 fun _ _ _ _ _ _ _ q => add_int q
theorem op_sub : OpR X (binaryOp .Sub) (rI0 fun i j => .int (i - j)) := opI0 fun _ _ _ _ _ _ _ q => sub_int q
theorem op_mul : OpR X (binaryOp .Mult) (rI CMul fun i j => .int (i * j)) := opI fun _ _ _ _ _ _ _ hc q => mul_int q hc.ok
theorem op_fdiv : OpR X (binaryOp .FloorDiv) (rI CDiv fun i j => .int (i / j)) := opI fun i j _ _ _ _ _ hc q => by
  have h1 : (0 : Int) < j := hc.1
  have h2 : j < 1073741824 := hc.2
  exact floordiv_int (by omega) (by rw [Int.fdiv_eq_ediv_of_nonneg i (by omega)]; exact q) (.inl (PyProof.noPylong_small (by omega)))
theorem op_mod : OpR X (binaryOp .Mod) (rI (fun _ j => 0 < j) fun i j => .int (i % j)) := opI fun i j _ _ _ _ _ hc q => by
  have h1 : (0 : Int) < j := hc
  exact mod_int' (by omega) (by rw [Int.fmod_eq_emod_of_nonneg i (by omega)]; exact q)
theorem op_pow : OpR X (binaryOp .Pow) (rI CPow fun i j => .int (i ^ j.toNat)) := opI fun _ _ _ _ _ _ _ hc q => pow_int_small hc.1 hc.2.1 hc.2.2 q
theorem unI {f : Value → Sem Value} {g : Int → Int}
    (rule : ∀ (i : Int) (t : Tok) (s : Shared) (Q : Value → Shared → Prop) (E : Value → Shared → Prop), Q (.int (g i) s.toks) { s with toks := s.toks + 1 } → wpAny (model X.prog X.w) X.A (f (.int i t)) Q E s) :
    UnR X f (rU fun i => .int (g i)) := by
  intro pins s σ H x v Q I rx h
  obtain ⟨i, rfl, q⟩ := h
  obtain ⟨t, rfl⟩ := rx
  exact rule i t s _ _ ⟨.int (g i), H, I.tok _, ⟨_, rfl⟩, q⟩
theorem un_neg : UnR X (unaryOp .USub) (rU fun i => .int (-i)) := unI fun _ _ _ _ _ q => neg_int q
end
def scal : V → V → Bool
  | .non, .non => true | .non, .int _ => true | .int _, .non => true | .non, .bl _ => true | .bl _, .non => true | .non, .str _ => true | .str _, .non => true
  | .int _, .int _ => true | .bl _, .bl _ => true | .str _, .str _ => true | .byt _, .byt _ => true
  | .int _, .str _ => true | .str _, .int _ => true | .bl _, .str _ => true | .str _, .bl _ => true
  | _, _ => false
def rEq : R2 := fun x y H Q => scal x y = true ∧ Q (.bl (decide (x = y))) H
def rNe : R2 := fun x y H Q => scal x y = true ∧ Q (.bl (!decide (x = y))) H
theorem dec_int {i j : Int} : decide (V.int i = V.int j) = (i == j) := by
  rw [Bool.eq_iff_iff]
  simp
theorem dec_bl {i j : Bool} : decide (V.bl i = V.bl j) = (i == j) := by
  rw [Bool.eq_iff_iff]
  simp
theorem dec_str {i j : Str} : decide (V.str i = V.str j) = (i == j) := by
  rw [Bool.eq_iff_iff]
  simp
theorem dec_byt {i j : Array UInt8} : decide (V.byt i = V.byt j) = (i.toList == j.toList) := by
  rw [Bool.eq_iff_iff]
  cases i
  cases j
  simp
section
variable {X : Cx} {a b c : Expr} {ta tb tc : TE} {pos : Pos}
theorem fin_bl {pins : List (Addr × Obj)} {σ : St} {H : Hp} {s : Shared} {Q : VK} {k k' : Bool} (I : Inv X pins σ H s) (q : Q (.bl k) H) (e : k = k') : EP X pins σ Q (.bool k') s := by
  subst e
  exact ⟨.bl k, H, I, rfl, q⟩
theorem op_eq : OpR X (compareOp .Eq) rEq := by
  intro pins s σ H x y v u Q I rx ry h
  obtain ⟨hs, q⟩ := h
  cases x with
  | non =>
    cases rx
    cases y with
    | non => cases ry; exact PySem.EqNone.eq_none_none (fin_bl I q (by simp))
    | bl j => cases ry; exact PySem.EqNone.eq_none_bool (fin_bl I q (by simp))
    | int j => obtain ⟨t', rfl⟩ := ry; exact PySem.EqNone.eq_none_int (fin_bl I q (by simp))
    | str j => obtain ⟨t', rfl⟩ := ry; exact PySem.EqNone.eq_none_str (fin_bl I q (by simp))
    | _ => exact absurd (show false = true from hs) Bool.false_ne_true
  | bl i =>
    cases rx
    cases y with
    | non => cases ry; exact PySem.EqNone.eq_bool_none (fin_bl I q (by simp))
    | bl j => cases ry; exact eq_bool (fin_bl I q dec_bl)
    | str j => obtain ⟨t', rfl⟩ := ry; exact PySem.EqMixed.eq_bool_str (fin_bl I q (by simp))
    | _ => exact absurd (show false = true from hs) Bool.false_ne_true
  | int i =>
    obtain ⟨t, rfl⟩ := rx
    cases y with
    | non => cases ry; exact PySem.EqNone.eq_int_none (fin_bl I q (by simp))
    | int j => obtain ⟨t', rfl⟩ := ry; exact eq_int (fin_bl I q dec_int)
    | str j => obtain ⟨t', rfl⟩ := ry; exact PySem.EqMixed.eq_int_str (fin_bl I q (by simp))
    | _ => exact absurd (show false = true from hs) Bool.false_ne_true
  | str i =>
    obtain ⟨t, rfl⟩ := rx
    cases y with
    | non => cases ry; exact PySem.EqNone.eq_str_none (fin_bl I q (by simp))
    | bl j => cases ry; exact PySem.EqMixed.eq_str_bool (fin_bl I q (by simp))
    | int j => obtain ⟨t', rfl⟩ := ry; exact PySem.EqMixed.eq_str_int (fin_bl I q (by simp))
    | str j => obtain ⟨t', rfl⟩ := ry; exact eq_str (fin_bl I q dec_str)
    | _ => exact absurd (show false = true from hs) Bool.false_ne_true
  | byt i =>
    obtain ⟨t, rfl⟩ := rx
    cases y with
    | byt j => obtain ⟨t', rfl⟩ := ry; exact PySem.W.eq_bytes (fin_bl I q dec_byt)
    | _ => exact absurd (show false = true from hs) Bool.false_ne_true
  | _ => cases y <;> exact absurd (show false = true from hs) Bool.false_ne_true
theorem op_ne : OpR X (compareOp .NotEq) rNe := by
  intro pins s σ H x y v u Q I rx ry h
  obtain ⟨hs, q⟩ := h
  cases x with
  | non =>
    cases rx
    cases y with
    | non => cases ry; exact PySem.EqNone.ne_none_none (fin_bl I q (by simp))
    | bl j => cases ry; exact PySem.EqNone.ne_none_bool (fin_bl I q (by simp))
    | int j => obtain ⟨t', rfl⟩ := ry; exact PySem.EqNone.ne_none_int (fin_bl I q (by simp))
    | str j => obtain ⟨t', rfl⟩ := ry; exact PySem.EqNone.ne_none_str (fin_bl I q (by simp))
    | _ => exact absurd (show false = true from hs) Bool.false_ne_true
  | bl i =>
    cases rx
    cases y with
    | non => cases ry; exact PySem.EqNone.ne_bool_none (fin_bl I q (by simp))
    | bl j => cases ry; exact ne_bool (fin_bl I q (congrArg not dec_bl))
    | str j => obtain ⟨t', rfl⟩ := ry; exact PySem.EqMixed.ne_bool_str (fin_bl I q (by simp))
    | _ => exact absurd (show false = true from hs) Bool.false_ne_true
  | int i =>
    obtain ⟨t, rfl⟩ := rx
    cases y with
    | non => cases ry; exact PySem.EqNone.ne_int_none (fin_bl I q (by simp))
    | int j => obtain ⟨t', rfl⟩ := ry; exact ne_int (fin_bl I q (congrArg not dec_int))
    | str j => obtain ⟨t', rfl⟩ := ry; exact PySem.EqMixed.ne_int_str (fin_bl I q (by simp))
    | _ => exact absurd (show false = true from hs) Bool.false_ne_true
  | str i =>
    obtain ⟨t, rfl⟩ := rx
    cases y with
    | non => cases ry; exact PySem.EqNone.ne_str_none (fin_bl I q (by simp))
    | bl j => cases ry; exact PySem.EqMixed.ne_str_bool (fin_bl I q (by simp))
    | int j => obtain ⟨t', rfl⟩ := ry; exact PySem.EqMixed.ne_str_int (fin_bl I q (by simp))
    | str j => obtain ⟨t', rfl⟩ := ry; exact ne_str (fin_bl I q (congrArg not dec_str))
    | _ => exact absurd (show false = true from hs) Bool.false_ne_true
  | byt i =>
    obtain ⟨t, rfl⟩ := rx
    cases y with
    | byt j => obtain ⟨t', rfl⟩ := ry; exact PySem.W.ne_bytes (fin_bl I q (congrArg not dec_byt))
    | _ => exact absurd (show false = true from hs) Bool.false_ne_true
  | _ => cases y <;> exact absurd (show false = true from hs) Bool.false_ne_true
theorem op_lt : OpR X (compareOp .Lt) (rI0 fun i j => .bl (decide (i < j))) := opB0 fun _ _ _ _ _ _ _ q => lt_int q
theorem op_le : OpR X (compareOp .LtE) (rI0 fun i j => .bl (decide (i ≤ j))) := opB0 fun _ _ _ _ _ _ _ q => le_int q
theorem op_gt : OpR X (compareOp .Gt) (rI0 fun i j => .bl (decide (j < i))) := opB0 fun _ _ _ _ _ _ _ q => gt_int q
theorem op_ge : OpR X (compareOp .GtE) (rI0 fun i j => .bl (decide (j ≤ i))) := opB0 fun _ _ _ _ _ _ _ q => ge_int q
theorem op_isN : OpR X (compareOp .Is) (fun x y H Q => y = .non ∧ Q (.bl (decide (x = .non))) H) := by
  intro pins s σ H x y v u Q I rx ry h
  obtain ⟨rfl, q⟩ := h
  cases ry
  refine is_none_gen (fin_bl I q ?_)
  cases x <;> first
    | (cases rx; rfl)
    | (obtain ⟨t, rfl⟩ := rx; rfl)
theorem op_notN : OpR X (compareOp .IsNot) (fun x y H Q => y = .non ∧ Q (.bl (!decide (x = .non))) H) := by
  intro pins s σ H x y v u Q I rx ry h
  obtain ⟨rfl, q⟩ := h
  cases ry
  refine isnot_none_gen (fin_bl I q ?_)
  cases x <;> first
    | (cases rx; rfl)
    | (obtain ⟨t, rfl⟩ := rx; rfl)
theorem nomark (b : Expr) {op : CmpOp} (h : op ≠ .In := by decide) (h2 : op ≠ .NotIn := by decide) : behindInMarks op b = false := by
  have e1 : (op == CmpOp.In) = false := by cases op <;> first | rfl | exact absurd rfl h
  have e2 : (op == CmpOp.NotIn) = false := by cases op <;> first | rfl | exact absurd rfl h2
  cases b <;> simp [behindInMarks, e1, e2]
theorem pe_cmpR {op : CmpOp} {r : R2} (ho : OpR X (compareOp op) r) (ha : PE X a ta) (hb : PE X b tb) (hm : behindInMarks op b = false) : PE X (.Compare a [op] [b] pos) (tOp r ta tb) := by
  intro pins s σ H Q I h
  exact wpAny_Compare1 (binT ha hb I h fun v u s2 x y H2 I2 rx ry q => ho pins s2 σ H2 x y v u Q I2 rx ry q) hm
def tTest (t : TE) : TT := fun σ H Q => t σ H fun x H' => ∃ k, x = .bl k ∧ Q k H'
theorem pt_cmpR {op : CmpOp} {r : R2} (ho : OpR X (compareOp op) r) (ha : PE X a ta) (hb : PE X b tb) (hm : behindInMarks op b = false) : PT X (.Compare a [op] [b] pos) (tTest (tOp r ta tb)) := by
  intro pins s σ H Q I h
  refine wpAny_isTrue_Compare1 (thn (ha pins s σ H _ I h) fun v s1 ⟨x, H1, I1, r1, q1⟩ => thn (hb pins s1 σ H1 _ I1 q1) fun u s2 ⟨y, H2, I2, r2, q2⟩ =>
    thn (ho pins s2 σ H2 x y v u _ I2 r1 r2 q2) fun c s3 ⟨z, H3, I3, r3, k, e, q3⟩ => ?_) hm
  subst e
  cases r3
  exact wpAny_truthy_bool ⟨H3, I3, q3⟩
def tChain (r r' : R2) (ta tb tc : TE) : TE := fun σ H Q => ta σ H fun x H1 => tb σ H1 fun y H2 => r x y H2 fun z H3 => ∃ k, z = .bl k ∧
  (if k = true then tc σ H3 fun w' H4 => r' y w' H4 Q else Q (.bl false) H3)
theorem pe_chain {op op' : CmpOp} {r r' : R2} (ho : OpR X (compareOp op) r) (ho' : OpR X (compareOp op') r') (ha : PE X a ta) (hb : PE X b tb) (hc : PE X c tc)
    (hm : lastMarks [op, op'] [b, c] = false := by with_unfolding_all rfl) : PE X (.Compare a [op, op'] [b, c] pos) (tChain r r' ta tb tc) := by
  intro pins s σ H Q I h
  refine Compare_chain (thn (ha pins s σ H _ I h) fun v s1 ⟨x, H1, I1, r1, q1⟩ => chain_link (thn (hb pins s1 σ H1 _ I1 q1) fun u s2 ⟨y, H2, I2, r2, q2⟩ =>
    thn (ho pins s2 σ H2 x y v u _ I2 r1 r2 q2) fun d s3 ⟨z, H3, I3, r3, k, e, q3⟩ => ?_)) hm
  subst e
  cases r3
  refine wpAny_truthy_bool ?_
  cases k with
  | false => exact ite_ff ⟨.bl false, H3, I3, rfl, q3⟩
  | true => exact ite_tt (chain_last (thn (hc pins s3 σ H3 _ I3 q3) fun w' s4 ⟨z', H4, I4, r4, q4⟩ => ho' pins s4 σ H4 y z' u w' Q I4 r2 r4 q4))
theorem pt_chain {op op' : CmpOp} {r r' : R2} (ho : OpR X (compareOp op) r) (ho' : OpR X (compareOp op') r') (ha : PE X a ta) (hb : PE X b tb) (hc : PE X c tc)
    (hm : lastMarks [op, op'] [b, c] = false := by with_unfolding_all rfl) : PT X (.Compare a [op, op'] [b, c] pos) (tTest (tChain r r' ta tb tc)) := by
  intro pins s σ H Q I h
  refine isTrue_chain (thn (ha pins s σ H _ I h) fun v s1 ⟨x, H1, I1, r1, q1⟩ => test_link (thn (hb pins s1 σ H1 _ I1 q1) fun u s2 ⟨y, H2, I2, r2, q2⟩ =>
    thn (ho pins s2 σ H2 x y v u _ I2 r1 r2 q2) fun d s3 ⟨z, H3, I3, r3, k, e, q3⟩ => ?_)) hm
  subst e
  cases r3
  refine wpAny_truthy_bool ?_
  cases k with
  | false =>
    obtain ⟨k', e', q'⟩ := q3
    cases e'
    exact ite_ff ⟨H3, I3, q'⟩
  | true =>
    refine ite_tt (test_last (thn (hc pins s3 σ H3 _ I3 q3) fun w' s4 ⟨z', H4, I4, r4, q4⟩ => thn (ho' pins s4 σ H4 y z' u w' _ I4 r2 r4 q4) fun d' s5 ⟨z2, H5, I5, r5, k2, e2, q5⟩ => ?_))
    subst e2
    cases r5
    exact wpAny_truthy_bool ⟨H5, I5, q5⟩
theorem line63 : (sizeLine : Nat) < 2 ^ 63 := by rw [sizeLine_eq]; decide
theorem vals1 {x : V} {us : List Value} (r : Vals [x] us) : ∃ u, us = [u] ∧ RelV x u := by
  cases r with
  | cons r1 r2 => cases r2; exact ⟨_, rfl, r1⟩
theorem vals2 {x y : V} {us : List Value} (r : Vals [x, y] us) : ∃ u w', us = [u, w'] ∧ RelV x u ∧ RelV y w' := by
  cases r with
  | cons r1 r2 =>
    cases r2 with
    | cons r3 r4 => cases r4; exact ⟨_, _, rfl, r1, r3⟩
end
end L2
namespace L2
open PySem PySem.Spec PyProof.Rows
structure ObjM (h : Heap) (x dx C : Addr) (mA : Str → Option Value) : Prop where
  obj : h.get? x = some (PySem.W.instObj C dx)
  ns : h.Ns1 dx mA
  ne : dx ≠ x
theorem lookIn_ns {h : Heap} {dx : Addr} {mA : Str → Option Value} (n : h.Ns1 dx mA) : ∃ od, h.get? dx = some od ∧ ∀ name, PySem.W.lookIn name od = some (mA name) := by
  obtain ⟨o, es, ep, ho, hd, hk, _, hm⟩ := n
  refine ⟨o, ho, fun name => ?_⟩
  have e := hm name
  unfold nsFind findBy at e
  rw [← Array.find?_toList] at e
  unfold PySem.W.lookIn
  rw [hd]
  dsimp only
  split
  · rename_i y q
    rw [q] at e
    exact congrArg some e
  · rename_i q
    rw [q] at e
    have a : es.toList.any (·.refKey) = false := by
      rw [List.any_eq_false]
      intro y hy
      obtain ⟨z, t, hkey⟩ := hk y (Array.mem_toList_iff.mp hy)
      simp [DictEntry.refKey, hkey]
    have a' : ¬ es.toList.any (·.refKey) = true := by rw [a]; exact Bool.false_ne_true
    rw [if_neg a']
    exact congrArg some e
theorem ObjM.look {h : Heap} {x dx C : Addr} {mA : Str → Option Value} (I : ObjM h x dx C mA) : ∃ od, PySem.W.InstAt h x (PySem.W.instObj C dx) C (some od) ∧ ∀ name, PySem.W.lookIn name od = some (mA name) :=
  let ⟨od, ho, hl⟩ := lookIn_ns I.ns
  ⟨od, ⟨I.obj, rfl, rfl, ho⟩, hl⟩
section
variable {prog : Program} {w : World} {A : Around} {E : Value → Shared → Prop} {s : Shared} {K : PySem.W.Frag} {x dx C f : Addr} {mA : Str → Option Value} {name : Str} {v : Value}
theorem get_map {expr : Bool} {Q : Value → Shared → Prop} (X : K.In s.heap) (I : ObjM s.heap x dx C mA) (hg : PySem.W.plainGet K C name = true) (hh : PySem.W.hasDictIn K C = true)
    (ha : PySem.W.findIn K (.ref C) name = some none) (hv : mA name = some v) (hv' : PySem.W.handedIn v = true) (h : Q v { s with toks := s.toks + 1 }) :
    wpAny (model prog w) A (getAttr (.ref x) name expr) Q E s := by
  obtain ⟨od, J, hl⟩ := I.look
  exact PySem.W.get_value X J (PySem.W.plainGet_of hg).1 (PySem.W.findObj_own hh ha rfl (by rw [hl, hv])) hv' h
theorem get_meth {pl : Sem Bool} {Q : Value × List Value → Shared → Prop} (X : K.In s.heap) (I : ObjM s.heap x dx C mA) (hg : PySem.W.plainGet K C name = true)
    (hf : PySem.W.findIn K (.ref C) name = some (some (.ref f))) (ht : PySem.W.isFn K (.ref f) = true) (hv : mA name = none) (h : Q (.ref f, [.ref x]) s) :
    wpAny (model prog w) A (getMethod (.ref x) name pl) Q E s := by
  obtain ⟨od, J, hl⟩ := I.look
  exact PySem.W.method_fn X J (PySem.W.plainGet_of hg).1 (PySem.W.plainGet_of hg).2 hf (beq_iff_eq.mp ht) (by show (PySem.W.lookIn name od).map (·.isSome) = some false; rw [hl, hv]; rfl) h
theorem set_map {ns : List Str} {Q : Unit → Shared → Prop} (X : K.In s.heap) (I : ObjM s.heap x dx C mA)
    (hs : PySem.W.findIn K (.ref C) "__setattr__" = some (some (.builtin "object.__setattr__"))) (hp : PySem.W.plainOver K C = true) (ht : PySem.W.takerIn K C name = some none) (hh : PySem.W.hasDictIn K C = true)
    (hw : PySem.Within mA ns) (hsz : ns.length ≤ sizeLine)
    (h : ∀ h', ObjM h' x dx C (fun y => if y = name then some v else mA y) → Heap.SameBut dx s.heap h' → Q () { s with heap := h', toks := s.toks + 2 }) :
    wpAny (model prog w) A (setAttr (.ref x) name v) Q E s := by
  obtain ⟨od, J, hl⟩ := I.look
  refine PySem.W.set_plain X J hs (PySem.W.osa_open (s := { s with toks := s.toks + 1 }) (r := none) X J hp ht fun b => ?_)
  obtain ⟨cd, hc, hd'⟩ := PySem.W.any_some hh
  have hx : s.heap.get? x = some ⟨.ref C, some dx, .plain, #[]⟩ := I.obj
  refine wpAny_bind (wpAny_pure (wpAny_bind (wpAny_bind (wpAny_loadPart hx (wpAny_bind (PySem.W.Looks.here (s := { s with toks := s.toks + 1 }) (PySem.W.looks_clsIn X hc) ?_))))))
  rw [hd']
  refine wpAny_pure (a := some dx) (wpAny_bind (wpAny_pure (wpAny_bind ?_)))
  refine wpAny_nsSet1 (s := { s with toks := s.toks + 1 }) I.ns fun h' hn2 hs2 => ?_
  obtain ⟨oD, esD, epD, hoD, hdD, hcD⟩ := hn2.count (PySem.Within.cons name v hw)
  refine wpAny_bind (wpAny_lookBehind hoD (by rw [hdD]; exact pastItsLine_dict (Nat.le_trans hcD (by rw [List.length_cons]; omega))) ?_)
  exact wpAny_pure (h _ ⟨(hs2.2 _ (Ne.symm I.ne)).trans I.obj, hn2, I.ne⟩ hs2)
theorem make_map {R : Result → Shared → Prop} {vs : List Value} {kw : List (Str × Value)} (X : K.In s.heap) (hm : PySem.W.makesIn K C = true)
    (hi : PySem.W.findIn K (.ref C) "__init__" = some (some (.ref f))) (hf : PySem.W.typeIn K (.ref f) = some (.type "function"))
    (h : codeAny (model prog w) (A.under (.builtin "type.__call__" ⟨.ref C :: vs, kw⟩)) (.call (.ref f) ⟨.ref (s.heap.objs.size + 1) :: vs, kw⟩) (PySem.W.InitBack (s.heap.objs.size + 1) R)
      { s with heap := (s.heap.push PySem.W.emptyDict).push (PySem.W.instObj C s.heap.objs.size) }) :
    codeAny (model prog w) A (.call (.ref C) ⟨vs, kw⟩) R s := by
  obtain ⟨hh, g, d, t, os⟩ := s
  exact PySem.W.make_core (PySem.W.makes_of X hm) (PySem.W.looks_findIn X hi) (fun self => PySem.W.bind_fn X self hf) (.inl rfl) h
end
def putF (f : Str) (v : V) : List (Str × V) → List (Str × V)
  | [] => [(f, v)]
  | (g, x) :: r => if g = f then (g, v) :: r else (g, x) :: putF f v r
theorem lookup_putF (f g : Str) (v : V) : ∀ fs : List (Str × V), (putF f v fs).lookup g = if g = f then some v else fs.lookup g
  | [] => by
    show List.lookup g [(f, v)] = _
    by_cases h : g = f
    · have hb : (g == f) = true := beq_iff_eq.mpr h
      simp only [List.lookup, hb, if_pos h]
    · have hb : (g == f) = false := beq_eq_false_iff_ne.mpr h
      simp only [List.lookup, hb, if_neg h]
  | (k, x) :: r => by
    have ih := lookup_putF f g v r
    rw [show putF f v ((k, x) :: r) = (if k = f then (k, v) :: r else (k, x) :: putF f v r) from rfl]
    by_cases hk : k = f
    · rw [if_pos hk]
      by_cases h : g = k
      · have hb : (g == k) = true := beq_iff_eq.mpr h
        simp only [List.lookup, hb, if_pos (h.trans hk)]
      · have hb : (g == k) = false := beq_eq_false_iff_ne.mpr h
        simp only [List.lookup, hb, if_neg (fun e : g = f => h (e.trans hk.symm))]
    · rw [if_neg hk]
      by_cases h : g = k
      · have hb : (g == k) = true := beq_iff_eq.mpr h
        simp only [List.lookup, hb, if_neg (fun e : g = f => hk (h.symm.trans e))]
      · have hb : (g == k) = false := beq_eq_false_iff_ne.mpr h
        simp only [List.lookup, hb]
        exact ih
theorem keys_putF (f : Str) (v : V) : ∀ fs : List (Str × V), f ∈ (putF f v fs).map (·.1) ∧ ∀ g, g ∈ fs.map (·.1) → g ∈ (putF f v fs).map (·.1)
  | [] => ⟨by simp [putF], fun g h => by simp at h⟩
  | (k, x) :: r => by
    obtain ⟨i1, i2⟩ := keys_putF f v r
    rw [show putF f v ((k, x) :: r) = (if k = f then (k, v) :: r else (k, x) :: putF f v r) from rfl]
    by_cases hk : k = f
    · rw [if_pos hk]
      subst hk
      exact ⟨by simp, fun g h => by simpa using h⟩
    · rw [if_neg hk]
      refine ⟨?_, fun g h => ?_⟩
      · rw [List.map_cons]
        exact List.mem_cons_of_mem _ i1
      · rw [List.map_cons] at h ⊢
        rcases List.mem_cons.mp h with e | e
        · exact List.mem_cons.mpr (.inl e)
        · exact List.mem_cons_of_mem _ (i2 g e)
theorem length_putF (f : Str) (v : V) : ∀ fs : List (Str × V), (putF f v fs).length ≤ fs.length + 1
  | [] => by simp [putF]
  | (k, x) :: r => by
    have ih := length_putF f v r
    rw [show putF f v ((k, x) :: r) = (if k = f then (k, v) :: r else (k, x) :: putF f v r) from rfl]
    by_cases hk : k = f
    · rw [if_pos hk, List.length_cons, List.length_cons]; omega
    · rw [if_neg hk, List.length_cons, List.length_cons]; omega
theorem RelO.some_of {v : V} {o : Option Value} (r : RelO (some v) o) : ∃ u, o = some u ∧ RelV v u := by
  cases o with
  | none => exact (show False from r).elim
  | some u => exact ⟨u, rfl, r⟩
theorem RelO.none_of {o : Option Value} (r : RelO none o) : o = none := by
  cases o with
  | none => rfl
  | some u => exact (show False from r).elim
theorem handed_of {v : V} {u : Value} (r : RelV v u) : PySem.W.handedIn u = true := by
  cases v with
  | non => cases (show u = Value.none from r); rfl
  | bl b => cases (show u = Value.bool b from r); rfl
  | int i => obtain ⟨t, e⟩ := (show ∃ t, u = Value.int i t from r); cases e; rfl
  | str x => obtain ⟨t, e⟩ := (show ∃ t, u = Value.str x t from r); cases e; rfl
  | byt b => obtain ⟨t, e⟩ := (show ∃ t, u = Value.bytes b t from r); cases e; rfl
  | flt b => obtain ⟨t, e⟩ := (show ∃ t, u = Value.float b t from r); cases e; rfl
  | ref a => cases (show u = Value.ref a from r); rfl
  | ty n => cases (show u = Value.type n from r); rfl
section
variable {P : Program} {w : World} {H H' : Hp} {h h' : Heap} {a C dx : Addr} {fs fs' : List (Str × V)}
theorem ins_get (hok : HOk P w H h) (e : H a = some (.ins C dx fs)) : ∃ mA, ObjM h a dx C mA ∧ (∀ f, RelO (fs.lookup f) (mA f)) ∧ PySem.Within mA (fs.map (·.1)) ∧ fs.length ≤ 1000 ∧ H dx = some (.own a) := by
  obtain ⟨d, z, ne, ob, mA, n, r, q⟩ := (show ObjOk P w H h a (.ins C dx fs) from hok a _ e)
  exact ⟨mA, ⟨ob, n, ne⟩, r, q, z, d⟩
end
structure Cls (K : PySem.W.Frag) (C : Addr) : Prop where
  pg : PySem.W.plainGet K C Str.empty = true
  hd : PySem.W.hasDictIn K C = true
  po : PySem.W.plainOver K C = true
  sa : PySem.W.findIn K (.ref C) "__setattr__" = some (some (.builtin "object.__setattr__"))
theorem Cls.get {K : PySem.W.Frag} {C : Addr} (c : Cls K C) (f : Str) : PySem.W.plainGet K C f = true := c.pg
def NoAttr (K : PySem.W.Frag) (C : Addr) (f : Str) : Prop := PySem.W.findIn K (.ref C) f = some none
theorem NoAttr.taker {K : PySem.W.Frag} {C : Addr} {f : Str} (n : NoAttr K C f) : PySem.W.takerIn K C f = some none := by
  unfold PySem.W.takerIn
  rw [show PySem.W.findIn K (.ref C) f = some none from n]
  rfl
structure Meth (K : PySem.W.Frag) (C : Addr) (m : Str) (f : Addr) : Prop where
  at_ : PySem.W.findIn K (.ref C) m = some (some (.ref f))
  fn : PySem.W.isFn K (.ref f) = true
  kp : PySem.W.keepIn K (.ref f) = true
section
variable {X : Cx} {pins : List (Addr × Obj)} {σ : St} {H : Hp} {s : Shared} {a C dx : Addr} {fs : List (Str × V)} {f : Str} {v : V} {A : Around} {E : Value → Shared → Prop}
theorem getattr_ok {b : Bool} {Q : Value → Shared → Prop} (I : Inv X pins σ H s) (e : H a = some (.ins C dx fs)) (c : Cls X.K C) (n : NoAttr X.K C f) (l : fs.lookup f = some v)
    (h : ∀ u s', Inv X pins σ H s' → RelV v u → Q u s') : wpAny (model X.prog X.w) A (getAttr (.ref a) f b) Q E s := by
  obtain ⟨mA, O, r, _, _, _⟩ := ins_get I.hok e
  obtain ⟨u, hu, ru⟩ := RelO.some_of (v := v) (o := mA f) (by rw [← l]; exact r f)
  exact get_map I.kIn O (c.get f) c.hd n hu (handed_of ru) (h u _ (I.tok _) ru)
theorem getmeth_ok {m : Str} {g : Addr} {pl : Sem Bool} {Q : Value × List Value → Shared → Prop} (I : Inv X pins σ H s) (e : H a = some (.ins C dx fs)) (c : Cls X.K C) (k : Meth X.K C m g) (l : fs.lookup m = none)
    (h : Q (.ref g, [.ref a]) s) : wpAny (model X.prog X.w) A (getMethod (.ref a) m pl) Q E s := by
  obtain ⟨mA, O, r, _, _, _⟩ := ins_get I.hok e
  have hn : mA m = none := RelO.none_of (by rw [← l]; exact r m)
  exact get_meth I.kIn O (c.get m) k.at_ k.fn hn h
theorem setattr_ok {y : V} {u : Value} {Q : Unit → Shared → Prop} (I : Inv X pins σ H s) (e : H a = some (.ins C dx fs)) (c : Cls X.K C) (n : NoAttr X.K C f) (hl : fs.length < 1000) (ry : RelV y u)
    (h : ∀ s', Inv X pins σ (upd H a (.ins C dx (putF f y fs))) s' → Q () s') : wpAny (model X.prog X.w) A (setAttr (.ref a) f u) Q E s := by
  obtain ⟨mA, O, r, wi, _, ho⟩ := ins_get I.hok e
  have hz : (fs.map (·.1)).length ≤ sizeLine := by rw [List.length_map, sizeLine_eq]; omega
  refine set_map I.kIn O c.sa c.po n.taker c.hd wi hz fun h' O' sb => h _ ?_
  have hd : ∃ o, h'.get? dx = some o := let ⟨o, _, _, e', _⟩ := O'.ns; ⟨o, e'⟩
  refine I.write (x := a) (e := dx) (by rw [e]; exact True.intro) (.inr ho) (fun b q hb z => (sb.2 b hb).trans z) hd ?_
  refine ⟨by rw [upd_ne O.ne]; exact ho, ?_, O.ne, O'.obj, _, O'.ns, fun g => ?_, fun g hg => ?_⟩
  · have := length_putF f y fs; omega
  · show RelO ((putF f y fs).lookup g) (if g = f then some u else mA g)
    rw [lookup_putF]
    by_cases q : g = f
    · rw [if_pos q, if_pos q]; exact ry
    · rw [if_neg q, if_neg q]; exact r g
  · by_cases q : g = f
    · rw [q]; exact (keys_putF f y fs).1
    · refine (keys_putF f y fs).2 g (wi g fun z => hg ?_)
      show (if g = f then some u else mA g) = none
      rw [if_neg q]; exact z
theorem Inv.made (I : Inv X pins σ H s) : Inv X pins σ (upd (upd H s.heap.objs.size (.own (s.heap.objs.size + 1))) (s.heap.objs.size + 1) (.ins C s.heap.objs.size []))
    { s with heap := (s.heap.push PySem.W.emptyDict).push (PySem.W.instObj C s.heap.objs.size) } := by
  have e1 : (s.heap.push PySem.W.emptyDict).get? s.heap.objs.size = some PySem.W.emptyDict := Heap.get?_push_size s.heap rfl
  have e2 : ((s.heap.push PySem.W.emptyDict).push (PySem.W.instObj C s.heap.objs.size)).get? (s.heap.objs.size + 1) = some (PySem.W.instObj C s.heap.objs.size) := by
    have := Heap.get?_push_size (s.heap.push PySem.W.emptyDict) (o := PySem.W.instObj C s.heap.objs.size) rfl
    rwa [Heap.size_push] at this
  have e3 : (s.heap.push PySem.W.emptyDict).Ns s.heap.objs.size (fun _ => none) := ⟨PySem.W.emptyDict, #[], _, e1, rfl, (fun e he => absurd he (by simp)), fun _ => rfl⟩
  have I1 := I.laid (a := s.heap.objs.size) (o := .own (s.heap.objs.size + 1)) (h' := s.heap.push PySem.W.emptyDict) (t' := s.toks) (fun b u q => Heap.get?_push_of_some _ q) (Nat.le_refl _) ⟨_, e1⟩
  refine I1.laid (a := s.heap.objs.size + 1) (o := .ins C s.heap.objs.size []) (t' := s.toks) (fun b u q => Heap.get?_push_of_some _ q) (Nat.le_of_eq (Heap.size_push _ _)) ?_
  have ne : s.heap.objs.size ≠ s.heap.objs.size + 1 := Nat.ne_of_lt (Nat.lt_succ_self _)
  refine ⟨by rw [upd_ne ne, upd_same], Nat.zero_le _, ne, e2, fun _ => none, (Heap.Ns1.of_empty e3).at fun o q => Heap.get?_push_of_some _ q, fun _ => True.intro, fun y hy => absurd rfl hy⟩
theorem attr_of {prog : Program} {w : World} {env : Env} {e : Expr} {f : Str} {pos : Pos} {s : Shared} {Q : Value → Shared → Prop} (hb : attributeBase e f env (eval e env) = eval e env)
    (h : wpAny (model prog w) A (eval e env) (fun o s₁ => wpAny (model prog w) A (getAttr o f true) Q E s₁) E s) : wpAny (model prog w) A (eval (.Attribute e f pos) env) Q E s :=
  Attribute_any_ h (by rw [arm_eval_Attribute, hb])
end
def tFld (K : PySem.W.Frag) (ta : TE) (f : Str) : TE := fun σ H Q => ta σ H fun x H1 => ∃ a C dx fs v, x = .ref a ∧ H1 a = some (.ins C dx fs) ∧ Cls K C ∧ NoAttr K C f ∧ fs.lookup f = some v ∧ Q v H1
def sFld (K : PySem.W.Frag) (ta tv : TE) (f : Str) : TS := fun D σ H => tv σ H fun y H1 => ta σ H1 fun x H2 => ∃ a C dx fs, x = .ref a ∧ H2 a = some (.ins C dx fs) ∧ Cls K C ∧ NoAttr K C f ∧ fs.length < 1000 ∧
  D.nx σ (upd H2 a (.ins C dx (putF f y fs)))
section
variable {X : Cx} {o e value : Expr} {f : Str} {pos pos' tpos : Pos} {ta tv : TE}
theorem pe_fld (he : PE X e ta) (hb : attributeBase e f X.env (eval e X.env) = eval e X.env) : PE X (.Attribute e f pos) (tFld X.K ta f) := by
  intro pins s σ H Q I h
  refine attr_of hb (thn (he pins s σ H _ I h) fun u s1 ⟨x, H1, I1, rx, a, C, dx, fs, v, ex, ea, c, n, l, q⟩ => ?_)
  subst ex
  obtain rfl : u = Value.ref a := rx
  exact getattr_ok I1 ea c n l fun u' s2 I2 ru => ⟨v, H1, I2, ru, q⟩
theorem ps_fld (ha : PE X o ta) (hv : PE X value tv) (hs : swapsWith value (some (.Attribute o f pos')) pos.line X.env = pure false) : PS X (.Assign [.Attribute o f pos'] value pos) (sFld X.K ta tv f) := by
  intro pins s σ H D I h
  refine plainObj_wpAny_Assign_Attribute (thn (hv pins s σ H _ I h) fun u s1 ⟨y, H1, I1, ry, q⟩ => thn (ha pins s1 σ H1 _ I1 q) fun ov s2 ⟨x, H2, I2, rx, a, C, dx, fs, ex, ea, c, n, l, q2⟩ => ?_) hs
  subst ex
  obtain rfl : ov = Value.ref a := rx
  exact setattr_ok I2 ea c n l ry fun s3 I3 => ⟨σ, _, I3, q2⟩
end
section
variable {X : Cx} {pins : List (Addr × Obj)} {σ : St} {H : Hp} {s : Shared} {A : Around} {E : Value → Shared → Prop} {Q : Value → Shared → Prop} {c : Value} {b : Bool}
end
end L2
namespace L2
open PySem PySem.Spec PyProof.Rows
structure Room (k : Nat) (A : Around) : Prop where
  hd : A.handled = none
  dp : A.depth + 3 * k + 5 < recursionLimit
  un : A.units + 16 * k + 200 < cLine
  gd : A.guards = some []
theorem Room.mono {j k : Nat} {A : Around} (r : Room k A) (h : j ≤ k) : Room j A := ⟨r.hd, by have := r.dp; omega, by have := r.un; omega, r.gd⟩
theorem Room.deeper {k : Nat} {A : Around} (r : Room (k + 1) A) (env : Env) : Room k (A.deeper env) :=
  ⟨r.hd, by have := r.dp; show A.depth + 1 + 3 * k + 5 < _; omega, by have := r.un; show A.units + 3 + 16 * k + 200 < _; omega, r.gd⟩
theorem make_depth {A : Around} {C : Addr} {us : List Value} {kw : List (Str × Value)} : (A.under (.builtin "type.__call__" ⟨.ref C :: us, kw⟩)).depth = A.depth + 1 := by
  first | rfl | simp [Around.under, Code.weight, Code.isCreation, Code.isGuard, Code.isCaller, Code.frames, Code.isFrame, guardIds]
theorem make_units {A : Around} {C : Addr} {us : List Value} {kw : List (Str × Value)} : (A.under (.builtin "type.__call__" ⟨.ref C :: us, kw⟩)).units = A.units + 1 := by
  first | rfl | simp [Around.under, Code.cUnits, Code.frames, Code.isFrame]
theorem Room.make {k : Nat} {A : Around} (r : Room (k + 1) A) (C : Addr) (us : List Value) (kw : List (Str × Value)) : Room k (A.under (.builtin "type.__call__" ⟨.ref C :: us, kw⟩)) :=
  ⟨r.hd, by have := r.dp; rw [make_depth]; omega, by have := r.un; rw [make_units]; omega, by first | (simp [Around.under, Code.guards, Code.isGuard, guardIds, pushGuards, r.gd]; done) | (unfold Around.under; simp [Code.guards, Code.isGuard, guardIds, pushGuards, r.gd]; done) | (unfold Around.under; dsimp only; rw [r.gd]; rfl)⟩
theorem Room.depth {k : Nat} {A : Around} (r : Room k A) : A.depth < recursionLimit := by have := r.dp; omega
theorem Room.units {k : Nat} {A : Around} (r : Room k A) : A.units + 64 < cLine := by have := r.un; omega
def tNil : TA := fun _ H Q => Q [] H
def tCons (ta : TE) (tr : TA) : TA := fun σ H Q => ta σ H fun x H1 => tr σ H1 fun xs H2 => Q (x :: xs) H2
section
variable {X : Cx} {e : Expr} {es : List Expr} {te : TE} {t : TA} {pos : Pos}
theorem pa_nil : PA X [] tNil := fun _ _ _ _ H Q I h => Calls.spliced_nil ⟨[], H, I, .nil, h⟩
theorem pa_cons (ha : PE X e te) (hr : PA X es t) (hs : starEach (e :: es) X.env = (false, eval e X.env) :: starEach es X.env := by rfl) : PA X (e :: es) (tCons te t) := by
  intro pos pins s σ H Q I h
  rw [hs]
  show wpAny _ _ (spliced ((false, eval e X.env) :: backTo pos (starEach es X.env))) _ _ s
  refine Calls.spliced_cons (thn (ha pins s σ H _ I h) fun u s1 ⟨x, H1, I1, r1, q1⟩ => ?_)
  exact thn (hr pos pins s1 σ H1 _ I1 q1) fun us s2 ⟨xs, H2, I2, r2, q2⟩ => ⟨x :: xs, H2, I2, .cons r1 r2, q2⟩
def tTup (t : TA) : TE := fun σ H Q => t σ H fun xs H1 => xs.length ≤ sizeLine ∧ ∀ p, H1 p = none → Q (.ref p) (upd H1 p (.tup xs))
def tLst (t : TA) : TE := fun σ H Q => t σ H fun xs H1 => xs.length ≤ sizeLine ∧ ∀ p, H1 p = none → Q (.ref p) (upd H1 p (.lst xs))
theorem pe_tup {x1} (h : PA X es t) : PE X (.Tuple es x1 pos) (tTup t) := by
  intro pins s σ H Q I hq
  refine wpAny_Tuple_spliced (thn (h pos pins s σ H _ I hq) fun us s1 ⟨xs, H1, I1, r, z, q⟩ => ⟨by rw [← r.length]; exact z, ?_⟩)
  have hf : H1 s1.heap.objs.size = none := I1.hok.fresh (Nat.le_refl _)
  refine ⟨.ref s1.heap.objs.size, upd H1 s1.heap.objs.size (.tup xs), I1.laid (t' := s1.toks) (fun b u e => Heap.get?_push_of_some _ e) (Nat.le_refl _) ?_, rfl, q _ hf⟩
  exact ⟨z, us, r, ⟨_, Heap.get?_push_size _ rfl, rfl, _, rfl⟩⟩
theorem pe_lst (h : PA X es t) : PE X (.List es pos) (tLst t) := by
  intro pins s σ H Q I hq
  refine wpAny_List_spliced (thn (h pos pins s σ H _ I hq) fun us s1 ⟨xs, H1, I1, r, z, q⟩ => ⟨by rw [← r.length]; exact z, ?_⟩)
  have hf : H1 s1.heap.objs.size = none := I1.hok.fresh (Nat.le_refl _)
  refine ⟨.ref s1.heap.objs.size, upd H1 s1.heap.objs.size (.lst xs), I1.laid (t' := s1.toks) (fun b u e => Heap.get?_push_of_some _ e) (Nat.le_refl _) ?_, rfl, q _ hf⟩
  exact ⟨z, us, 0, r, Heap.get?_push_size _ rfl⟩
end
abbrev Sp := List V → Hp → VK → XK → Prop
abbrev CXT := List Env → Hp → Shared → XK → Value → Shared → Prop
structure Env0 (P : Program) (w : World) (K : PySem.W.Frag) (mg : Str → Option Value) (base : Heap) (A : Around) (outer : List Env) (s : Shared) (H : Hp) : Prop where
  frames : A.frames = some outer
  mod : Mod K mg base
  bs : ∀ b o, base.get? b = some o → s.heap.get? b = some o ∧ H b = none
  bsz : base.objs.size ≤ s.heap.objs.size
  funs : s.heap.FunFrames base outer
  frf : ∀ b ∈ frs outer, H b = none
  hok : HOk P w H s.heap
  bare : AllBare s.gens
def CE (outer : List Env) (P : Program) (w : World) (H : Hp) (s : Shared) (Q : VK) (u : Value) (s' : Shared) : Prop :=
  ∃ v H', s'.os = s.os ∧ AllBare s'.gens ∧ Un (frs outer) [] H H' s.heap s'.heap ∧ HOk P w H' s'.heap ∧ RelV v u ∧ Q v H'
def CR (CX : CXT) (outer : List Env) (P : Program) (w : World) (H : Hp) (s : Shared) (Q : VK) (E : XK) (r : Result) (s' : Shared) : Prop :=
  match r with
  | .ok (.ret u) => CE outer P w H s Q u s'
  | .ok _ => False
  | .error e => CX outer H s E e s'
structure FnOk (P : Program) (w : World) (K : PySem.W.Frag) (mg : Str → Option Value) (base : Heap) (CX : CXT) (k : Nat) (f : Addr) (fd : FuncData) (ps : List Str) (sp : Sp) : Prop where
  len : ∀ vs H Q E, sp vs H Q E → vs.length = ps.length
  run : ∀ (A : Around) (outer : List Env) (s : Shared) (H : Hp) (args : Args) (us : List Value) (vs : List V) (Q : VK) (E : XK), Room k A → Env0 P w K mg base A outer s H → BindsTo s fd args (ps.zip us) → Vals vs us → sp vs H Q E →
    codeAny (model P w) A (.call (.ref f) args) (CR CX outer P w H s Q E) s
theorem Env0.make {P : Program} {w : World} {K : PySem.W.Frag} {mg : Str → Option Value} {base : Heap} {A : Around} {outer : List Env} {s : Shared} {H : Hp} (e : Env0 P w K mg base A outer s H) (C : Addr) (us : List Value) (kw : List (Str × Value)) :
    Env0 P w K mg base (A.under (.builtin "type.__call__" ⟨.ref C :: us, kw⟩)) outer s H := ⟨by first | exact e.frames | (simpa [Around.under, Code.envs, Code.isFrame, pushEnvs] using e.frames), e.mod, e.bs, e.bsz, e.funs, e.frf, e.hok, e.bare⟩
section
variable {X : Cx} {pins : List (Addr × Obj)} {σ : St} {H : Hp} {s s' : Shared}
theorem Inv.env0 (I : Inv X pins σ H s) : Env0 X.prog X.w X.K X.mg X.base X.A X.stack s H :=
  ⟨I.ok.frames, I.ok.mod, I.bs, Nat.le_trans I.ok.bsz I.sz, I.stack, I.stkFree, I.hok, I.bare⟩
theorem Inv.after {Q : VK} {u : Value} (I : Inv X pins σ H s) (h : CE X.stack X.prog X.w H s Q u s') : EP X pins σ Q u s' := by
  obtain ⟨v, H', os, bare, un, hok, r, q⟩ := h
  obtain ⟨hh, g, d, t, os'⟩ := s'
  obtain rfl : os' = s.os := os
  exact ⟨v, H', I.call (h' := hh) (g' := g) (d' := d) (t' := t) (ch := []) un hok bare (fun b z => absurd z (by simp)), r, q⟩
end
def tCall (sp : Sp) (dvs : List V) (E : XK) (t : TA) : TE := fun σ H Q => t σ H fun vs H1 => sp (vs ++ dvs) H1 Q E
def tMeth (C : Addr) (m : Str) (sp : Sp) (dvs : List V) (E : XK) (ta : TE) (t : TA) : TE := fun σ H Q => ta σ H fun x H1 => ∃ a dx fs, x = .ref a ∧ H1 a = some (.ins C dx fs) ∧ fs.lookup m = none ∧
  t σ H1 fun vs H2 => sp (x :: (vs ++ dvs)) H2 Q E
def tMake (C : Addr) (sp : Sp) (dvs : List V) (E : XK) (t : TA) : TE := fun σ H Q => t σ H fun vs H1 => ∀ x dx, H1 x = none → H1 dx = none → dx ≠ x →
  sp (.ref x :: (vs ++ dvs)) (upd (upd H1 dx (.own x)) x (.ins C dx [])) (fun v H2 => v = .non ∧ Q (.ref x) H2) E
def Binds (K : PySem.W.Frag) (fd : FuncData) (ps : List Str) (ds : List Value) : Prop :=
  ∀ (s : Shared) (us : List Value), K.In s.heap → (us ++ ds).length = ps.length → BindsTo s fd ⟨us, []⟩ (ps.zip (us ++ ds))
theorem Binds.all {K : PySem.W.Frag} {fd : FuncData} {ps : List Str} (h : ∀ us : List Value, us.length = ps.length → bindArgs fd ⟨us, []⟩ = pure (ps.zip us)) : Binds K fd ps [] := fun s us _ hl => by
  rw [List.append_nil] at hl ⊢
  exact .of_eq (h us hl)
def Passes (CX : CXT) (X : Cx) (E : XK) : Prop := ∀ (pins : List (Addr × Obj)) (σ : St) (H : Hp) (s : Shared) (e : Value) (s' : Shared), Inv X pins σ H s → CX X.stack H s E e s' → X.xe e s'
section
variable {X : Cx} {CX : CXT} {k : Nat} {f C : Addr} {fd : FuncData} {ps : List Str} {sp : Sp} {dvs : List V} {ds : List Value} {E : XK} {x m : Str} {p pos apos : Pos} {e o : Expr} {es : List Expr} {ta : TE} {t : TA}
theorem run_fn {pins : List (Addr × Obj)} {σ : St} {H : Hp} {s : Shared} {Q : VK} {us : List Value} {vs : List V} (F : FnOk X.prog X.w X.K X.mg X.base CX k f fd ps sp) (hr : Room k X.A) (hb : Binds X.K fd ps ds) (hd : Vals dvs ds) (hx : Passes CX X E)
    (I : Inv X pins σ H s) (r : Vals vs us) (h : sp (vs ++ dvs) H Q E) : wpAny (model X.prog X.w) X.A (call (.ref f) us) (EP X pins σ Q) X.xe s := by
  have r2 : Vals (vs ++ dvs) (us ++ ds) := r.append hd
  have hl : (us ++ ds).length = ps.length := by rw [← r2.length]; exact F.len _ _ _ _ h
  refine wpAny_call (codeAny_mono (F.run X.A X.stack s H ⟨us, []⟩ (us ++ ds) (vs ++ dvs) Q E hr I.env0 (hb s us I.kIn hl) r2 h) fun r s' hq => ?_)
  cases r with
  | error e => exact hx pins σ H s e s' I hq
  | ok fl =>
    cases fl with
    | ret u => exact I.after hq
    | next => exact False.elim hq
    | brk => exact False.elim hq
    | cont => exact False.elim hq
theorem pe_call (F : FnOk X.prog X.w X.K X.mg X.base CX k f fd ps sp) (hr : Room k X.A) (hg : Gl X x) (hm : X.mg x = some (.ref f)) (hk : PySem.W.keepIn X.K (.ref f) = true) (hb : Binds X.K fd ps ds) (hd : Vals dvs ds) (hx : Passes CX X E)
    (ha : PA X (e :: es) t) (hdb : (x == ("__debug__" : Str)) = false := by decide) (he : starEach (e :: es) X.env = (false, eval e X.env) :: starEach es X.env := by rfl) (hpl : (backTo pos (starEach es X.env)).any (·.1) = false := by rfl) :
    PE X (.Call (.Name x p) (e :: es) [] pos) (tCall sp dvs E t) := by
  intro pins s σ H Q I h
  refine wpAny_Call_Name_kw (ld_glob I hg hm ?_ hdb)
  refine PySem.W.callWith_K (h₀ := X.base) I.ok.mod.kin hk (thn (ha pos pins s σ H _ I h) fun us s1 ⟨vs, H1, I1, r, q⟩ => ⟨I1.kIn, ?_⟩) he hpl
  exact run_fn F hr hb hd hx I1 r q
theorem pe_meth {pl : Sem Bool} (he : PE X o ta) (c : Cls X.K C) (hm : Meth X.K C m f) (F : FnOk X.prog X.w X.K X.mg X.base CX k f fd ps sp) (hr : Room k X.A) (hb : Binds X.K fd ps ds) (hd : Vals dvs ds) (hx : Passes CX X E) (ha : PA X (e :: es) t)
    (hst : starEach (e :: es) X.env = (false, eval e X.env) :: starEach es X.env := by rfl) (hpl : (backTo pos (starEach es X.env)).any (·.1) = false := by rfl)
    (ht : eval (.Call (.Attribute o m apos) (e :: es) [] pos) X.env = (do
      let ov ← eval o X.env
      standAt apos.atName
      let (f, first) ← holding [ov] (getMethod ov m pl)
      callWith pos f first (backTo pos (starEach (e :: es) X.env)) (backToKw pos (keywordEach [] X.env))) := by rfl) :
    PE X (.Call (.Attribute o m apos) (e :: es) [] pos) (tMeth C m sp dvs E ta t) := by
  intro pins s σ H Q I h
  refine PySem.W.methodCall_KW (pl := pl) (thn (he pins s σ H _ I h) fun u s1 ⟨x, H1, I1, rx, a, dx, fs, ex, ea, l, q⟩ => ?_) ht
  subst ex
  obtain rfl : u = Value.ref a := rx
  refine getmeth_ok I1 ea c hm l ?_
  refine PySem.W.callWith_K (first := [.ref a]) (h₀ := X.base) I.ok.mod.kin hm.kp (thn (ha pos pins s1 σ H1 _ I1 q) fun us s2 ⟨vs, H2, I2, r, q2⟩ => ⟨I2.kIn, ?_⟩) hst hpl
  exact run_fn (us := .ref a :: us) (vs := .ref a :: vs) F hr hb hd hx I2 (.cons rfl r) q2
theorem pe_meth0 {pl : Sem Bool} (he : PE X o ta) (c : Cls X.K C) (hm : Meth X.K C m f) (F : FnOk X.prog X.w X.K X.mg X.base CX k f fd ps sp) (hr : Room k X.A) (hb : Binds X.K fd ps ds) (hd : Vals dvs ds) (hx : Passes CX X E)
    (ht : eval (.Call (.Attribute o m apos) [] [] pos) X.env = (do
      let ov ← eval o X.env
      standAt apos.atName
      let (f, first) ← holding [ov] (getMethod ov m pl)
      callWith pos f first (backTo pos (starEach [] X.env)) (backToKw pos (keywordEach [] X.env))) := by rfl) :
    PE X (.Call (.Attribute o m apos) [] [] pos) (tMeth C m sp dvs E ta tNil) := by
  intro pins s σ H Q I h
  refine PySem.W.methodCall_KW (pl := pl) (thn (he pins s σ H _ I h) fun u s1 ⟨x, H1, I1, rx, a, dx, fs, ex, ea, l, q⟩ => ?_) ht
  subst ex
  obtain rfl : u = Value.ref a := rx
  refine getmeth_ok I1 ea c hm l ?_
  exact PySem.W.callWith_K0 (first := [.ref a]) I1.kIn hm.kp (run_fn (us := [.ref a]) (vs := [.ref a]) F hr hb hd hx I1 (.cons rfl .nil) q)
structure Mk (K : PySem.W.Frag) (C f : Addr) : Prop where
  makes : PySem.W.makesIn K C = true
  init : PySem.W.findIn K (.ref C) "__init__" = some (some (.ref f))
  fn : PySem.W.isFn K (.ref f) = true
  kp : PySem.W.keepIn K (.ref C) = true
theorem run_make {pins : List (Addr × Obj)} {σ : St} {H : Hp} {s : Shared} {Q : VK} {us : List Value} {vs : List V} (M : Mk X.K C f) (F : FnOk X.prog X.w X.K X.mg X.base CX k f fd ps sp) (hr : Room (k + 1) X.A) (hb : Binds X.K fd ps ds) (hd : Vals dvs ds)
    (hx : Passes CX X E) (I : Inv X pins σ H s) (r : Vals vs us)
    (h : ∀ x dx, H x = none → H dx = none → dx ≠ x → sp (.ref x :: (vs ++ dvs)) (upd (upd H dx (.own x)) x (.ins C dx [])) (fun v H2 => v = .non ∧ Q (.ref x) H2) E) :
    wpAny (model X.prog X.w) X.A (call (.ref C) us) (EP X pins σ Q) X.xe s := by
  have hq := h (s.heap.objs.size + 1) s.heap.objs.size (I.hok.fresh (Nat.le_succ _)) (I.hok.fresh (Nat.le_refl _)) (Nat.ne_of_lt (Nat.lt_succ_self _))
  have I2 := Inv.made (C := C) I
  have r2 : Vals (V.ref (s.heap.objs.size + 1) :: (vs ++ dvs)) (Value.ref (s.heap.objs.size + 1) :: (us ++ ds)) := .cons rfl (r.append hd)
  have hl : (Value.ref (s.heap.objs.size + 1) :: us ++ ds).length = ps.length := by
    have e := r2.length
    rw [F.len _ _ _ _ hq] at e
    exact e.symm
  refine wpAny_call (make_map (f := f) I.kIn M.makes M.init (beq_iff_eq.mp M.fn) (codeAny_mono (F.run _ X.stack _ _ ⟨Value.ref (s.heap.objs.size + 1) :: us, []⟩ (Value.ref (s.heap.objs.size + 1) :: (us ++ ds)) _ _ E (hr.make C us [])
    (I2.env0.make C us []) (hb _ (Value.ref (s.heap.objs.size + 1) :: us) I2.kIn hl) r2 hq) fun r s' hq' => ?_))
  cases r with
  | error e => exact hx pins σ _ _ e s' I2 hq'
  | ok fl =>
    cases fl with
    | ret u =>
      obtain ⟨v, H', I3, rv, ev, q3⟩ := I2.after hq'
      subst ev
      exact ⟨rv, ⟨V.ref (s.heap.objs.size + 1), H', I3, rfl, q3⟩⟩
    | next => exact False.elim hq'
    | brk => exact False.elim hq'
    | cont => exact False.elim hq'
theorem pe_make (M : Mk X.K C f) (F : FnOk X.prog X.w X.K X.mg X.base CX k f fd ps sp) (hr : Room (k + 1) X.A) (hg : Gl X x) (hm : X.mg x = some (.ref C)) (hb : Binds X.K fd ps ds) (hd : Vals dvs ds) (hx : Passes CX X E)
    (ha : PA X (e :: es) t) (hdb : (x == ("__debug__" : Str)) = false := by decide) (he : starEach (e :: es) X.env = (false, eval e X.env) :: starEach es X.env := by rfl) (hpl : (backTo pos (starEach es X.env)).any (·.1) = false := by rfl) :
    PE X (.Call (.Name x p) (e :: es) [] pos) (tMake C sp dvs E t) := by
  intro pins s σ H Q I h
  refine wpAny_Call_Name_kw (ld_glob I hg hm ?_ hdb)
  refine PySem.W.callWith_K (h₀ := X.base) I.ok.mod.kin M.kp (thn (ha pos pins s σ H _ I h) fun us s1 ⟨vs, H1, I1, r, q⟩ => ⟨I1.kIn, ?_⟩) he hpl
  exact run_make M F hr hb hd hx I1 r q
end
section
variable {X : Cx} {CX : CXT} {k : Nat} {f C : Addr} {fd : FuncData} {ps ks : List Str} {sp : Sp} {E : XK} {x m : Str} {p pos apos kpos : Pos} {e o : Expr} {es : List Expr} {kws : List Keyword} {te ta : TE} {t tk : TA} {nm : Option Str}
variable {g : List Value → List Value → List Value} {gV : List V → List V → List V}
end
structure FnScope (N P : List Str) (sc : Scope) : Prop where
  kind : sc.kind = .function
  co : sc.isCoroutine = false
  gen : sc.isGenerator = false
  nd : N.Nodup
  pre : N.take P.length = P
  par : ∀ x ∈ P, sc.names.lookup x = some .local ∨ sc.names.lookup x = some .cell
  nofree : ∀ y ∈ sc.names, y.2 ≠ .free
theorem bindL_out {kindOf : Str → Option NameKind} {x : Str} : ∀ {binds : List (Str × Value)} {m : Str → Option Value}, (∀ v, (x, v) ∉ binds) → bindL kindOf binds m x = m x
  | [], _, _ => rfl
  | (n, v) :: r, m, h => by
    unfold bindL
    rw [bindL_out fun w hw => h w (List.mem_cons_of_mem _ hw)]
    split
    · have : x ≠ n := by rintro rfl; exact h v List.mem_cons_self
      simp [this]
    · rfl
theorem bindC_out {kindOf : Str → Option NameKind} {x : Str} : ∀ {binds : List (Str × Value)} {m : Str → Option Value}, (∀ v, (x, v) ∉ binds) → bindC kindOf binds m x = m x
  | [], _, _ => rfl
  | (n, v) :: r, m, h => by
    unfold bindC
    rw [bindC_out fun w hw => h w (List.mem_cons_of_mem _ hw)]
    split
    · rfl
    · have : x ≠ n := by rintro rfl; exact h v List.mem_cons_self
      simp [this]
theorem bindL_get {kindOf : Str → Option NameKind} {x : Str} {v : Value} : ∀ {P : List Str} {vs : List Value} {i : Nat} {m : Str → Option Value}, P.Nodup → P[i]? = some x → vs[i]? = some v → kindOf x = some .local →
    bindL kindOf (P.zip vs) m x = some v
  | [], _, _, _, _, h, _, _ => by simp at h
  | _ :: _, [], _, _, _, _, h, _ => by simp at h
  | p :: P, w :: vs, 0, m, nd, h1, h2, hk => by
    simp at h1 h2; subst h1; subst h2
    show bindL kindOf ((p, w) :: P.zip vs) m p = _
    unfold bindL
    rw [bindL_out fun v hv => (List.nodup_cons.mp nd).1 (List.of_mem_zip hv).1, if_pos hk]
    simp
  | p :: P, w :: vs, i + 1, m, nd, h1, h2, hk => by
    show bindL kindOf ((p, w) :: P.zip vs) m x = _
    unfold bindL
    exact bindL_get (i := i) (List.nodup_cons.mp nd).2 (by simpa using h1) (by simpa using h2) hk
theorem bindC_get {kindOf : Str → Option NameKind} {x : Str} {v : Value} : ∀ {P : List Str} {vs : List Value} {i : Nat} {m : Str → Option Value}, P.Nodup → P[i]? = some x → vs[i]? = some v → kindOf x ≠ some .local →
    bindC kindOf (P.zip vs) m x = some v
  | [], _, _, _, _, h, _, _ => by simp at h
  | _ :: _, [], _, _, _, _, h, _ => by simp at h
  | p :: P, w :: vs, 0, m, nd, h1, h2, hk => by
    simp at h1 h2; subst h1; subst h2
    show bindC kindOf ((p, w) :: P.zip vs) m p = _
    unfold bindC
    rw [bindC_out fun v hv => (List.nodup_cons.mp nd).1 (List.of_mem_zip hv).1, if_neg hk]
    simp
  | p :: P, w :: vs, i + 1, m, nd, h1, h2, hk => by
    show bindC kindOf ((p, w) :: P.zip vs) m x = _
    unfold bindC
    exact bindC_get (i := i) (List.nodup_cons.mp nd).2 (by simpa using h1) (by simpa using h2) hk
def start (N : List Str) (vs : List V) : St := vs.map some ++ List.replicate (N.length - vs.length) none
def cxOf (CX : CXT) (P : Program) (w : World) (K : PySem.W.Frag) (mg : Str → Option Value) (base : Heap) (N : List Str) (qual : Str) (scope : Scope) (f : Addr) (cd : Value) (A : Around) (outer : List Env) (s : Shared) (H : Hp) (E : XK) : Cx where
  prog := P
  w := w
  K := K
  mg := mg
  base := base
  A := A.deeper (envOfC qual scope s.heap.objs.size f cd)
  N := N
  s₀ := s
  H₀ := H
  env := envOfC qual scope s.heap.objs.size f cd
  outer := outer
  stack := envOfC qual scope s.heap.objs.size f cd :: outer
  ex := []
  calm := true
  fn := fun _ => true
  pn := []
  xe := fun e s' => wpAny (model P w) (A.deeper (envOfC qual scope s.heap.objs.size f cd)) (leaving (envOfC qual scope s.heap.objs.size f cd) e) (fun _ s'' => CX outer H s E e s'') (fun e' s'' => CX outer H s E e' s'') s'
theorem cell_has {sc : Scope} {n : Nat} {x : Str} (h : sc.names.lookup x = some .cell) : ∃ c, (cellsFrom n sc.names []).lookup x = some c := by
  have q := PySem.W.cellsFrom_some sc.names n [] (.inl h)
  exact Option.isSome_iff_exists.mp q
theorem inv_start {CX : CXT} {P : Program} {w : World} {K : PySem.W.Frag} {mg : Str → Option Value} {base : Heap} {N ps : List Str} {qual : Str} {scope : Scope} {f : Addr} {cd : Value} {A : Around} {outer : List Env} {s s1 : Shared} {H : Hp} {E : XK} {us : List Value} {vs : List V}
    (S : FnScope N ps scope) (hd : A.handled = none) (e0 : Env0 P w K mg base A outer s H) (hl : vs.length = ps.length) (r : Vals vs us)
    (x : InCallC s s.heap.objs.size (bindL (envOfC qual scope s.heap.objs.size f cd).kindOf (ps.zip us) fun _ => none) (cellsFrom (s.heap.objs.size + 1) scope.names []) (bindC (envOfC qual scope s.heap.objs.size f cd).kindOf (ps.zip us) fun _ => none) s1) :
    Inv (cxOf CX P w K mg base N qual scope f cd A outer s H E) [] (start N vs) H s1 := by
  have hpl : ps.length ≤ N.length := by have := congrArg List.length S.pre; rw [List.length_take] at this; omega
  obtain ⟨h1, tk, rfl, hk⟩ := x.done
  have noA : ∀ b : Addr, b ∉ (cxOf CX P w K mg base N qual scope f cd A outer s H E).ex := fun b z => absurd (show b ∈ ([] : List Addr) from z) (by simp)
  refine ⟨⟨e0.mod, S.kind, rfl, rfl, Nat.le_refl _, fun y z c h1 h2 => ?_, fun y hy => ?_, fun y c _ h => ?_, fun _ => hd, Around.frames_deeper e0.frames, .inr ⟨rfl, rfl⟩, fun b z => absurd z (noA b), e0.bs, e0.bsz, fun b _ _ => noA b, fun b z => absurd z (noA b), e0.funs, e0.frf⟩,
    rfl, e0.bare, Un.kept hk, ⟨_, x.toInCall.ns, fun i y v h1 h2 h3 => ?_⟩, fun y c h => ⟨_, x.cell y c h⟩, e0.hok.fresh (Nat.le_refl _), fun y c h => ?_, fun p hp => absurd (show p ∈ ([] : List (Addr × Obj)) from hp) (by simp), e0.hok.kept hk, ?_⟩
  · exact name_of_addr x.apart (PySem.mem_of_lookup h1) (PySem.mem_of_lookup h2)
  · have hy : scope.names.lookup y = some .cell ∨ scope.names.lookup y = some .free := hy
    rcases hy with hy | hy
    · exact cell_has hy
    · exact absurd rfl (S.nofree _ (PySem.mem_of_lookup hy))
  · exact Nat.le_of_lt (x.above y c (PySem.mem_of_lookup h))
  · have hi : i < vs.length := by
      unfold start at h2
      by_cases hi : i < vs.length
      · exact hi
      · rw [List.getElem?_append_right (by simpa using hi)] at h2
        rw [List.getElem?_replicate] at h2
        split at h2 <;> cases h2
    have ha : vs[i]? = some v := by
      unfold start at h2
      rw [List.getElem?_append_left (by simpa using hi), List.getElem?_map] at h2
      cases e : vs[i]? with
      | none => rw [e] at h2; cases h2
      | some a => rw [e] at h2; cases h2; rfl
    obtain ⟨u, hu, rv⟩ := r.get ha
    have hp : ps[i]? = some y := by
      rw [← S.pre, List.getElem?_take_of_lt (by omega)]; exact h1
    have ndP : ps.Nodup := by rw [← S.pre]; exact S.nd.sublist (List.take_sublist _ _)
    refine ⟨u, rv, ?_⟩
    rcases S.par y (List.mem_of_getElem? hp) with k | k
    · exact .inl ⟨k, bindL_get ndP hp hu k⟩
    · obtain ⟨c, e⟩ := cell_has (n := s.heap.objs.size + 1) k
      refine .inr ⟨.inl k, c, e, ?_⟩
      have q := x.cell y c e
      rw [bindC_get ndP hp hu (by show scope.names.lookup y ≠ _; rw [k]; decide)] at q
      exact q
  · exact e0.hok.fresh (Nat.le_of_lt (x.above y c (PySem.mem_of_lookup h)))
  · unfold start
    show _ = N.length
    rw [List.length_append, List.length_map, List.length_replicate]
    omega
theorem fn_of {CX : CXT} {P : Program} {w : World} {K : PySem.W.Frag} {mg : Str → Option Value} {base : Heap} {k : Nat} {f : Addr} {name qual : Str} {params : Arguments} {body : List Stmt} {scope : Scope} {dV kV doc pm cdv ct oc : Value} {an od : Option Addr}
    {osl : Array (Option Value)} {N ps : List Str} {sp : Sp} (lk : K.lookup f = some ⟨oc, od, .func (PySem.W.fnOf name qual params body scope dV kV doc pm an cdv ct), osl⟩) (hcd : PySem.W.codeIn K cdv qual = true) (S : FnScope N ps scope)
    (len : ∀ vs H Q E, sp vs H Q E → vs.length = ps.length)
    (hbody : ∀ (A : Around) (outer : List Env) (s : Shared) (H : Hp) (vs : List V) (Q : VK) (E : XK), Room k (A.deeper (envOfC qual scope s.heap.objs.size f cdv)) → sp vs H Q E →
      ∃ t, PSs (cxOf CX P w K mg base N qual scope f cdv A outer s H E) body t ∧ t { nx := fun _ H' => Q .non H', rt := Q } (start N vs) H) :
    FnOk P w K mg base CX (k + 1) f (PySem.W.fnOf name qual params body scope dV kV doc pm an cdv ct) ps sp := by
  refine ⟨len, fun A outer s H args us vs Q E hr e0 hb r hsp => ?_⟩
  have hl := len _ _ _ _ hsp
  have KX : K.In s.heap := e0.mod.kin.keeps fun b o e => (e0.bs b o e).1
  have lim : s.heap.NoLimit := e0.mod.nolimit.keeps fun b o e => (e0.bs b o e).1
  have hkind : ∀ y ∈ ps.zip us, scope.names.lookup y.1 = some .local ∨ (scope.names.lookup y.1 = some .cell ∧ ((cellsFrom (s.heap.objs.size + 1) scope.names []).lookup y.1).isSome = true) := fun ⟨n, v⟩ hy => by
    rcases S.par n (List.of_mem_zip hy).1 with q | q
    · exact .inl q
    · exact .inr ⟨q, PySem.W.cellsFrom_some _ _ _ (.inl q)⟩
  refine codeAny_call_function hr.depth (KX _ _ lk) rfl S.co S.gen rfl (PySem.W.codeRec_of KX hcd) (hb _ _ _ _ ?_)
  refine wpAny_newFunctionEnv_cells S.kind hkind fun env he s1 x => ?_
  subst he
  refine ⟨lim.keeps x.toInCall.keep, codeAny_func ?_⟩
  obtain ⟨t, ht, hq⟩ := hbody A outer s H vs Q E (hr.deeper _) hsp
  have I : Inv (cxOf CX P w K mg base N qual scope f cdv A outer s H E) [] (start N vs) H s1 := inv_start S hr.hd e0 hl r x
  refine wpAny_mono (ht [] s1 (start N vs) H _ I hq) (fun fl s' hs => ?_) fun e s' hs => hs
  have fin : ∀ {σ' : St} {H' : Hp} {v : V} {u : Value}, Inv (cxOf CX P w K mg base N qual scope f cdv A outer s H E) [] σ' H' s' → RelV v u → Q v H' → CE outer P w H s Q u s' :=
    fun {σ' H' v u} J rv q => ⟨v, H', J.os, J.bare, J.base, J.hok, rv, q⟩
  cases fl with
  | ret u =>
    obtain ⟨v, σ', H', J, rv, q⟩ := hs
    exact fin J rv q
  | next =>
    obtain ⟨σ', H', J, q⟩ := hs
    exact fin (v := V.non) (u := Value.none) J rfl q
  | brk =>
    obtain ⟨_, _, _, q⟩ := hs
    exact False.elim q
  | cont =>
    obtain ⟨_, _, _, q⟩ := hs
    exact False.elim q
end L2
namespace L2
open PySem PySem.Spec PyProof.Rows
section
variable {X : Cx} {x : Str} {p pos : Pos} {e : Expr} {es : List Expr} {t : TA} {id T : String} {r : List V → Hp → VK → Prop}
def tCB (r : List V → Hp → VK → Prop) (t : TA) : TE := fun σ H Q => t σ H fun vs H1 => r vs H1 Q
theorem pe_callB (hc : CallR X (.builtin id) r) (hg : Gl X x) (hm : X.mg x = none) (hv : bootBuiltins x = some (.builtin id)) (ha : PA X (e :: es) t) (hn : x ≠ "__name__" := by decide) (hdb : (x == ("__debug__" : Str)) = false := by decide)
    (he : starEach (e :: es) X.env = (false, eval e X.env) :: starEach es X.env := by rfl) (hpl : (backTo pos (starEach es X.env)).any (·.1) = false := by rfl) : PE X (.Call (.Name x p) (e :: es) [] pos) (tCB r t) := by
  intro pins s σ H Q I h
  refine wpAny_Call_Name_kw (ld_blt I hg hm hv ?_ hn hdb)
  exact PyProof.Rows.callWith_builtin1 (thn (ha pos pins s σ H _ I h) fun us s1 ⟨vs, H1, I1, r1, q1⟩ => hc pins s1 σ H1 vs us Q I1 r1 q1) he hpl
theorem pe_callTy (hc : CallR X (.type T) r) (hg : Gl X x) (hm : X.mg x = none) (hv : bootBuiltins x = some (.type T)) (ha : PA X (e :: es) t) (hn : x ≠ "__name__" := by decide) (hdb : (x == ("__debug__" : Str)) = false := by decide)
    (he : starEach (e :: es) X.env = (false, eval e X.env) :: starEach es X.env := by rfl) (hpl : (backTo pos (starEach es X.env)).any (·.1) = false := by rfl) : PE X (.Call (.Name x p) (e :: es) [] pos) (tCB r t) := by
  intro pins s σ H Q I h
  refine wpAny_Call_Name_kw (ld_blt I hg hm hv ?_ hn hdb)
  exact PyProof.Rows.callWith_type1 (thn (ha pos pins s σ H _ I h) fun us s1 ⟨vs, H1, I1, r1, q1⟩ => hc pins s1 σ H1 vs us Q I1 r1 q1) he hpl
end
end L2
namespace HT
open PySem PyProof.Rows
section
open PySem.SeqAt
open PySem.AutoSeq1 (wpAny_loadPart')
open PySem.MeetsSeq PySem.MeetsSeq2 PySem.MeetsSeq3
end
section
variable {prog : Program} {w : World} {A : Around} {E : Value → Shared → Prop} {s : Shared}
theorem cat_tup {t b : Addr} {vs ws : List Value} {Q : Value → Shared → Prop} (ht : IsTup s.heap t vs.toArray) (hb : IsTup s.heap b ws.toArray) (hv : vs ≠ [])
    (h1 : ws = [] → Q (.ref t) s) (h2 : ws ≠ [] → Q (.ref s.heap.objs.size) { s with heap := s.heap.push { cls := .type "tuple", data := .seq (vs ++ ws).toArray } })
    (hsz : vs.length + ws.length ≤ sizeLine) : wpAny (model prog w) A (binaryOp .Add (.ref t) (.ref b)) Q E s := by
  obtain ⟨⟨cls, dd, data, sl⟩, ho, hc, n, hd⟩ := id ht
  obtain ⟨⟨cls2, dd2, data2, sl2⟩, ho2, hc2, n2, hd2⟩ := id hb
  simp only at hc hd hc2 hd2
  subst hc hd hc2 hd2
  have e : vs.toArray ++ ws.toArray = (vs ++ ws).toArray := by simp
  by_cases hw : ws = []
  · exact concat_meets ⟨_, ho, rfl⟩ ⟨_, ho2, rfl⟩ noFill_tuple_add seq_tuple_add PySem.F.slot_tuple_add PySem.F.entry_tuple_add (PySem.F.args_tuple_add_2 _ _)
      (tuple_addW1 t b vs.toArray ws.toArray n n2 dd dd2 sl sl2 (by simpa using hv) (by simp [hw])) ⟨ho, ho2, h1 hw⟩
  · refine concat_meets ⟨_, ho, rfl⟩ ⟨_, ho2, rfl⟩ noFill_tuple_add seq_tuple_add PySem.F.slot_tuple_add PySem.F.entry_tuple_add (PySem.F.args_tuple_add_2 _ _)
      (tuple_addW2 t b vs.toArray ws.toArray n n2 dd dd2 sl sl2 (by simpa using hv) (by simpa using hw) (by rw [List.size_toArray, List.size_toArray]; exact hsz)) ⟨ho, ho2, ?_⟩
    rw [e]
    exact h2 hw
def sIx (n d : Nat) : Option Int → Nat
  | none => d
  | some v => if v < 0 then (v + (n : Int)).toNat else min v.toNat n
theorem sIx_none (n d : Nat) : sIx n d none = d := rfl
theorem sIx_nat (n d k : Nat) : sIx n d (some (k : Int)) = min k n := by
  show (if (k : Int) < 0 then ((k : Int) + (n : Int)).toNat else min (k : Int).toNat n) = min k n
  rw [if_neg (by omega), Int.toNat_natCast]
theorem sIx_le (n d : Nat) (hd : d ≤ n) (o : Option Int) : sIx n d o ≤ n := by
  cases o with
  | none => exact hd
  | some v =>
    show (if v < 0 then (v + (n : Int)).toNat else min v.toNat n) ≤ n
    by_cases hv : v < 0
    · rw [if_pos hv]; omega
    · rw [if_neg hv]; exact Nat.min_le_right _ _
theorem clip_eq (v : Int) (n d : Nat) : (if v < 0 then max (v + (n : Int)) 0 else min v (n : Int)) = ((sIx n d (some v) : Nat) : Int) := by
  show (if v < 0 then max (v + (n : Int)) 0 else min v (n : Int)) = (((if v < 0 then (v + (n : Int)).toNat else min v.toNat n) : Nat) : Int)
  by_cases hv : v < 0
  · simp only [if_pos hv]; omega
  · simp only [if_neg hv]; omega
theorem adjust_gen (lo hi : Option Int) (n : Nat) : Builtin.Slice.sliceAdjust lo hi 1 (n : Int) = (((sIx n 0 lo : Nat) : Int), ((sIx n n hi : Nat) : Int)) := by
  have h1 : ¬ ((1 : Int) < 0) := by omega
  unfold Builtin.Slice.sliceAdjust
  simp only [h1, if_false]
  refine Prod.ext ?_ ?_
  · cases lo with
    | none => rfl
    | some v => exact clip_eq v n 0
  · cases hi with
    | none => rfl
    | some v => exact clip_eq v n n
theorem places_gen (i j : Nat) : Builtin.Slice.slicePlaces (i : Int) (j : Int) 1 = j - i := by
  unfold Builtin.Slice.slicePlaces
  have h1 : (1 : Int) > 0 := by omega
  simp only [h1, if_true, Int.ediv_one]
  split <;> omega
theorem slicePart_ {v : Value} {o : Option Int} {Q : Option Int → Shared → Prop} (p : IsPart v o) (h : Q o s) : wpAny (model prog w) A (Builtin.Slice.slicePartIndex v) Q E s := by
  cases p with
  | none => exact slicePart_none h
  | int i t => exact slicePart_int h
theorem sliceApplied_gen {sl : Addr} {vl vu : Value} {lo hi : Option Int} {n : Nat} {Q : Int × Int × Nat → Shared → Prop} (hs : s.heap.IsSliceOf sl vl vu .none) (pl : IsPart vl lo) (pu : IsPart vu hi)
    (h : Q (((sIx n 0 lo : Nat) : Int), 1, sIx n n hi - sIx n 0 lo) s) : wpAny (model prog w) A (Builtin.Slice.sliceApplied (.ref sl) (pure (n : Int))) Q E s := by
  obtain ⟨os, hos, hcs, hds⟩ := id hs
  unfold Builtin.Slice.sliceApplied Builtin.Slice.sliceFields
  refine wpAny_bind (wpAny_bind (wpAny_field hos hds (x := vl) rfl (wpAny_bind (wpAny_field hos hds (x := vu) rfl (wpAny_bind (wpAny_field hos hds (x := .none) rfl (wpAny_pure ?_)))))))
  refine wpAny_bind (slicePart_none ?_)
  show wpAny _ _ (if ((1 : Int) == 0) = true then _ else _) _ _ s
  rw [if_neg (by decide)]
  refine wpAny_bind (slicePart_ pl (wpAny_bind (slicePart_ pu (wpAny_bind (wpAny_pure ?_)))))
  show wpAny _ _ (match Builtin.Slice.sliceAdjust lo hi 1 (n : Int) with | (lo, hi) => pure (lo, (1 : Int), Builtin.Slice.slicePlaces lo hi 1)) _ _ s
  rw [adjust_gen lo hi n]
  show wpAny _ _ (pure (((sIx n 0 lo : Nat) : Int), (1 : Int), Builtin.Slice.slicePlaces ((sIx n 0 lo : Nat) : Int) ((sIx n n hi : Nat) : Int) 1)) _ _ s
  rw [places_gen]
  exact wpAny_pure h
theorem pick_gen (xs : Array Value) (i k : Nat) : ((List.range k).filterMap fun (m : Nat) => xs[((i : Int) + (m : Int) * 1).toNat]?).toArray = ((xs.toList.drop i).take k).toArray := by
  have e : (fun (m : Nat) => xs[((i : Int) + (m : Int) * 1).toNat]?) = fun m => xs[i + m]? := by
    funext m
    have : ((i : Int) + (m : Int) * 1).toNat = i + m := by omega
    rw [this]
  rw [e]
  have := pick_run xs i k
  rw [List.filterMap_map] at this
  have e2 : ((fun x => xs[x]?) ∘ fun x => i + x) = fun m => xs[i + m]? := rfl
  rw [e2] at this
  rw [this]
theorem getItem_tuple_cut {t sl : Addr} {items : Array Value} {vl vu : Value} {lo hi : Option Int} {Q : Value → Shared → Prop} (ht : IsTup s.heap t items) (hs : s.heap.IsSliceOf sl vl vu .none) (pl : IsPart vl lo) (pu : IsPart vu hi)
    (hw : ¬ (sIx items.size 0 lo = 0 ∧ sIx items.size items.size hi = items.size))
    (h : Q (.ref s.heap.objs.size) { s with heap := s.heap.push { cls := .type "tuple", data := .seq ((items.toList.drop (sIx items.size 0 lo)).take (sIx items.size items.size hi - sIx items.size 0 lo)).toArray } })
    (hsz : items.size ≤ sizeLine) : wpAny (model prog w) A (getItem (.ref t) (.ref sl)) Q E s := by
  have htake : sizeOk (.seq ((items.toList.drop (sIx items.size 0 lo)).take (sIx items.size items.size hi - sIx items.size 0 lo)).toArray) := by
    show ((items.toList.drop (sIx items.size 0 lo)).take (sIx items.size items.size hi - sIx items.size 0 lo)).toArray.size ≤ sizeLine
    rw [List.size_toArray, List.length_take, List.length_drop, Array.length_toList]
    omega
  have hj : sIx items.size items.size hi ≤ items.size := sIx_le _ _ (Nat.le_refl _) hi
  obtain ⟨os, hos, hcs, hds⟩ := id hs
  have hTs : s.TypeIs (.ref sl) "slice" := ⟨os, hos, hcs⟩
  unfold getItem
  try with_reducible refine wpAny_holding ?_
  first | refine wpAny_bind (wpAny_pure ?_) | skip
  refine wpAny_bind (wpAny_sequenceKey ht.typeIs (by decide) ?_)
  refine wpAny_bind (wpAny_callSpecial?_slot (name := Str.ofString "__getitem__") ht.typeIs PyProof.Rows.slot_tuple_getitem
    (wpAny_call_entry PyProof.Rows.slot_tuple_getitem ht.typeIs entry_tuple_getitem ?_ (args_tuple_getitem _ _)))
  show wpAny _ _ (Builtin.Tuple.tupleItemsOf (.ref t) >>= _) _ _ s
  refine wpAny_bind (tupleItemsOf_ ht ?_)
  refine wpAny_bind (wpAny_typeOf hTs ?_)
  rw [if_pos (by decide)]
  refine wpAny_bind (sliceApplied_gen hs pl pu ?_)
  have hno : ¬ ((((sIx items.size 0 lo : Nat) : Int) == 0 && (1 : Int) == 1 && (sIx items.size items.size hi - sIx items.size 0 lo) == items.size) = true) := by
    intro q
    rw [Bool.and_eq_true, Bool.and_eq_true] at q
    have q1 : ((sIx items.size 0 lo : Nat) : Int) = 0 := eq_of_beq q.1.1
    have q2 : sIx items.size items.size hi - sIx items.size 0 lo = items.size := eq_of_beq q.2
    exact hw ⟨by omega, by omega⟩
  show wpAny _ _ (if (((sIx items.size 0 lo : Nat) : Int) == 0 && (1 : Int) == 1 && (sIx items.size items.size hi - sIx items.size 0 lo) == items.size) = true then _ else _) _ _ s
  rw [if_neg hno, pick_gen]
  first
    | exact wpAny_bind (m := Builtin.Tuple.tupleExact _) (wpAny_newObj_type (wpAny_pure ⟨_, rfl, wpAny_pure h⟩) htake)
    | exact wpAny_bind (m := Builtin.Tuple.tupleExact _) (wpAny_newObj_type (wpAny_bind (wpAny_pure (wpAny_pure ⟨_, rfl, wpAny_pure h⟩))) htake)
    | exact wpAny_bind (wpAny_bind (m := Builtin.Tuple.tupleExact _) (wpAny_newObj_type (wpAny_pure (wpAny_pure ⟨_, rfl, wpAny_pure h⟩)) htake))
    | exact wpAny_bind (wpAny_bind (m := Builtin.Tuple.tupleExact _) (wpAny_newObj_type (wpAny_pure ⟨_, rfl, wpAny_pure h⟩) htake))
end
end HT
namespace L2
open PySem PySem.Spec PyProof.Rows
abbrev TO := St → Hp → (Option Int → Hp → Prop) → Prop
def PO (X : Cx) (e : Option Expr) (t : TO) : Prop :=
  ∀ (pins : List (Addr × Obj)) (s : Shared) (σ : St) (H : Hp) (Q : Option Int → Hp → Prop), Inv X pins σ H s → t σ H Q →
    wpAny (model X.prog X.w) X.A (evalPart e X.env) (fun u s' => ∃ o H', Inv X pins σ H' s' ∧ IsPart u o ∧ Q o H') X.xe s
def tNoPart : TO := fun _ H Q => Q none H
def tPart (t : TE) : TO := fun σ H Q => t σ H fun x H1 => ∃ i, x = .int i ∧ Q (some i) H1
section
variable {X : Cx} {e : Expr} {te : TE} {lo hi : Option Expr} {tl th : TO} {pos p2 : Pos}
theorem po_none : PO X none tNoPart := by
  intro pins s σ H Q I h
  rw [evalPart_none]
  exact wpAny_pure ⟨none, H, I, .none, h⟩
theorem po_some (h : PE X e te) : PO X (some e) (tPart te) := by
  intro pins s σ H Q I hw
  rw [evalPart_some]
  refine thn (h pins s σ H _ I hw) fun u s1 ⟨x, H1, I1, r1, q1⟩ => ?_
  obtain ⟨i, rfl, q⟩ := q1
  obtain ⟨t, rfl⟩ := r1
  exact ⟨some i, H1, I1, .int i t, q⟩
def SlR (X : Cx) (r : V → Option Int → Option Int → Hp → VK → Prop) : Prop :=
  ∀ (pins : List (Addr × Obj)) (s : Shared) (σ : St) (H : Hp) (x : V) (v vl vu : Value) (lo hi : Option Int) (sl : Addr) (Q : VK), Inv X pins σ H s → RelV x v → s.heap.IsSliceOf sl vl vu .none → IsPart vl lo → IsPart vu hi → r x lo hi H Q →
    ∃ T id, typeLookup (.type T) "__getitem__" = pure (some (.builtin id)) ∧ s.TypeIs v T ∧ wpAny (model X.prog X.w) X.A (getItem v (.ref sl)) (EP X pins σ Q) X.xe s
def tSl (r : V → Option Int → Option Int → Hp → VK → Prop) (te : TE) (tl th : TO) : TE := fun σ H Q => te σ H fun x H1 => tl σ H1 fun l H2 => th σ H2 fun u H3 => r x l u H3 Q
theorem pe_slice {r : V → Option Int → Option Int → Hp → VK → Prop} (hr : SlR X r) (he : PE X e te) (hl : PO X lo tl) (hu : PO X hi th) : PE X (.Subscript e (.Slice lo hi none p2) pos) (tSl r te tl th) := by
  intro pins s σ H Q I h
  refine Subscript_ (thn (he pins s σ H _ I h) fun v s1 ⟨x, H1, I1, r1, q1⟩ => ?_)
  refine wpAny_Slice (thn (hl pins s1 σ H1 _ I1 q1) fun vl s2 ⟨l, H2, I2, pl, q2⟩ => thn (hu pins s2 σ H2 _ I2 q2) fun vu s3 ⟨u, H3, I3, pu, q3⟩ => ?_)
  rw [evalPart_none]
  refine wpAny_pure ?_
  have I4 : Inv X pins σ H3 { s3 with heap := s3.heap.push { cls := .type "slice", data := .fields #[vl, vu, .none] } } := I3.kept (t' := s3.toks) fun b ob q => Heap.get?_push_of_some _ q
  obtain ⟨T, id, hT, ht, hg⟩ := hr pins { s3 with heap := s3.heap.push { cls := .type "slice", data := .fields #[vl, vu, .none] } } σ H3 x v vl vu l u s3.heap.objs.size Q I4 r1 (Heap.IsSliceOf.new ..) pl pu q3
  show wpAny (model X.prog X.w) X.A (subscriptTail e (.Slice lo hi none p2) v (.ref s3.heap.objs.size)) (EP X pins σ Q) X.xe { s3 with heap := s3.heap.push { cls := .type "slice", data := .fields #[vl, vu, .none] } }
  exact tail_any (ops := [.ref s3.heap.objs.size, v]) ht hT hg (by with_unfolding_all rfl)
def cutV (xs : List V) (lo hi : Option Int) : List V := (xs.drop (HT.sIx xs.length 0 lo)).take (HT.sIx xs.length xs.length hi - HT.sIx xs.length 0 lo)
theorem cutV_length (xs : List V) (lo hi : Option Int) : (cutV xs lo hi).length ≤ xs.length := by
  unfold cutV
  rw [List.length_take, List.length_drop]
  omega
def rSlT (K : PySem.W.Frag) : V → Option Int → Option Int → Hp → VK → Prop := fun x lo hi H Q => ∃ a xs, x = .ref a ∧ SqT K H a xs ∧
  ¬ (HT.sIx xs.length 0 lo = 0 ∧ HT.sIx xs.length xs.length hi = xs.length) ∧ ∀ p, H p = none → Q (.ref p) (upd H p (.tup (cutV xs lo hi)))
theorem sl_tup : SlR X (rSlT X.K) := by
  intro pins s σ H x v vl vu lo hi sl Q I rx hs pl pu h
  obtain ⟨a, xs, rfl, hx, hw, q⟩ := h
  cases rx
  obtain ⟨its, r, ht, hz⟩ := I.tuple hx
  have hlen : its.toArray.size = xs.length := by rw [List.size_toArray]; exact r.length.symm
  refine ⟨"tuple", _, PyProof.Rows.slot_tuple_getitem.lookup, ht.typeIs, ?_⟩
  refine HT.getItem_tuple_cut ht hs pl pu (by rw [hlen]; exact hw) ?_ (by rw [hlen]; exact hz)
  rw [hlen]
  refine ⟨.ref s.heap.objs.size, _, I.laid (t' := s.toks) (o := .tup (cutV xs lo hi)) (fun b ob q => Heap.get?_push_of_some _ q) (Nat.le_refl _) ?_, rfl, q _ (I.hok.fresh (Nat.le_refl _))⟩
  exact ⟨Nat.le_trans (cutV_length xs lo hi) hz, _, (r.drop (HT.sIx xs.length 0 lo)).take (HT.sIx xs.length xs.length hi - HT.sIx xs.length 0 lo), IsTup.new _ _⟩
def rCatT (K : PySem.W.Frag) : R2 := fun x y H Q => ∃ a b xs ys, x = .ref a ∧ y = .ref b ∧ SqT K H a xs ∧ SqT K H b ys ∧ xs ≠ [] ∧ xs.length + ys.length ≤ sizeLine ∧
  (ys = [] → Q (.ref a) H) ∧ (ys ≠ [] → ∀ p, H p = none → Q (.ref p) (upd H p (.tup (xs ++ ys))))
theorem Vals.nil_iff {xs : List V} {us : List Value} (r : Vals xs us) : us = [] ↔ xs = [] := by
  cases r with
  | nil => simp
  | cons _ _ => simp
theorem op_catT : OpR X (binaryOp .Add) (rCatT X.K) := by
  intro pins s σ H x y v u Q I rx ry h
  obtain ⟨a, b, xs, ys, rfl, rfl, ha, hb, hx, hz, q1, q2⟩ := h
  cases rx
  cases ry
  obtain ⟨its, r1, p1, _⟩ := I.tuple ha
  obtain ⟨its2, r2, p2, _⟩ := I.tuple hb
  refine HT.cat_tup p1 p2 (fun z => hx (r1.nil_iff.mp z)) (fun z => ⟨.ref a, H, I, rfl, q1 (r2.nil_iff.mp z)⟩) (fun z => ?_) (by rw [← r1.length, ← r2.length]; exact hz)
  refine ⟨.ref s.heap.objs.size, _, I.laid (t' := s.toks) (o := .tup (xs ++ ys)) (fun b ob q => Heap.get?_push_of_some _ q) (Nat.le_refl _) ?_, rfl, q2 (fun w => z (r2.nil_iff.mpr w)) _ (I.hok.fresh (Nat.le_refl _))⟩
  exact ⟨by rw [List.length_append]; exact hz, _, r1.append r2, IsTup.new _ _⟩
end
end L2
namespace L2
open PySem PySem.Spec PyProof.Rows
def ixN (n : Nat) (i : Int) : Option Nat := if 0 ≤ i then (if i < n then some i.toNat else none) else if -(n : Int) ≤ i then some (i + n).toNat else none
def atI {α : Type} (xs : List α) (i : Int) : Option α := (ixN xs.length i).bind fun j => xs[j]?
theorem ixN_seq {n : Nat} {i : Int} {j : Nat} (h : ixN n i = some j) : seqIndex? i n = some j ∧ j < n ∧ -(n : Int) ≤ i ∧ i < n := by
  unfold ixN at h
  by_cases h0 : 0 ≤ i
  · rw [if_pos h0] at h
    by_cases h1 : i < n
    · rw [if_pos h1] at h
      have e : i.toNat = j := Option.some.inj h
      exact ⟨by rw [seqIndex_of h0 h1, e], by omega, by omega, h1⟩
    · rw [if_neg h1] at h; cases h
  · rw [if_neg h0] at h
    by_cases h1 : -(n : Int) ≤ i
    · rw [if_pos h1] at h
      have e : (i + n).toNat = j := Option.some.inj h
      exact ⟨by rw [seqIndex_neg (by omega) h1, e], by omega, h1, by omega⟩
    · rw [if_neg h1] at h; cases h
theorem atI_get {α : Type} {xs : List α} {i : Int} {v : α} (h : atI xs i = some v) : ∃ j, seqIndex? i xs.length = some j ∧ xs[j]? = some v ∧ j < xs.length ∧ -(xs.length : Int) ≤ i ∧ i < xs.length := by
  unfold atI at h
  cases e : ixN xs.length i with
  | none => rw [e] at h; cases h
  | some j =>
    rw [e] at h
    obtain ⟨h1, h2, h3, h4⟩ := ixN_seq e
    exact ⟨j, h1, h, h2, h3, h4⟩
theorem atI_nat {α : Type} {xs : List α} {j : Nat} {v : α} (h : xs[j]? = some v) : atI xs (j : Int) = some v := by
  have hj : j < xs.length := (List.getElem?_eq_some_iff.mp h).1
  have e : ixN xs.length (j : Int) = some j := by
    unfold ixN
    rw [if_pos (by omega), if_pos (by omega)]; simp
  unfold atI; rw [e]; exact h
def PlainIx (b : Expr) : Prop := ∀ o i, subscripted b false o i = operate [o, i] (getItem o i)
def IxR (X : Cx) (r : R2) : Prop :=
  ∀ (value slice : Expr) (pins : List (Addr × Obj)) (s : Shared) (σ : St) (H : Hp) (x y : V) (v u : Value) (Q : VK), Inv X pins σ H s → RelV x v → RelV y u → r x y H Q →
    subscripted slice false v u = operate [v, u] (getItem v u) → wpAny (model X.prog X.w) X.A (subscriptTail value slice v u) (EP X pins σ Q) X.xe s
def MtR (X : Cx) (id : String) (r : V → List V → Hp → VK → Prop) : Prop :=
  ∀ (pins : List (Addr × Obj)) (s : Shared) (σ : St) (H : Hp) (x : V) (xs : List V) (v : Value) (us : List Value) (Q : VK), Inv X pins σ H s → RelV x v → Vals xs us → r x xs H Q →
    wpAny (model X.prog X.w) X.A (call (.builtin id) (v :: us)) (EP X pins σ Q) X.xe s
section
variable {X : Cx} {a b : Expr} {ta tb : TE} {pos : Pos}
theorem pe_ix {r : R2} (hr : IxR X r) (ha : PE X a ta) (hb : PE X b tb) (hs : PlainIx b) : PE X (.Subscript a b pos) (tOp r ta tb) := by
  intro pins s σ H Q I h
  exact Subscript_ (binT ha hb I h fun v u s2 x y H2 I2 rx ry q => hr a b pins s2 σ H2 x y v u Q I2 rx ry q (hs _ _))
def rIxL (K : PySem.W.Frag) : R2 := fun x y H Q => ∃ p xs i v, x = .ref p ∧ y = .int i ∧ SqL K H p xs ∧ atI xs i = some v ∧ Q v H
def rIxT (K : PySem.W.Frag) : R2 := fun x y H Q => ∃ p xs i v, x = .ref p ∧ y = .int i ∧ SqT K H p xs ∧ atI xs i = some v ∧ Q v H
theorem ix_list : IxR X (rIxL X.K) := by
  intro value slice pins s σ H x y v u Q I rx ry h hs
  obtain ⟨p, xs, i, z, rfl, rfl, hq, he, q⟩ := h
  cases rx
  obtain ⟨t, rfl⟩ := ry
  obtain ⟨its, r, pl, hz⟩ := I.list hq
  obtain ⟨j, h1, h2, h3, h4, h5⟩ := atI_get he
  obtain ⟨w, ew, rw'⟩ := r.get h2
  have hl := r.length
  have hn := line63
  have fin : EP X pins σ Q w s := ⟨z, H, I, rw', q⟩
  by_cases h0 : 0 ≤ i
  · have hj : i.toNat = j := by
      rw [seqIndex_of h0 h5] at h1
      exact Option.some.inj h1
    exact item_listR pl.isList h0 (by omega) (by rw [hj]; simpa using ew) fin hs
  · have hj : (i + (its.toArray.size : Int)).toNat = j := by
      rw [seqIndex_neg (by omega) h4] at h1
      rw [List.size_toArray, ← hl]
      exact Option.some.inj h1
    exact subscriptTail_builtinR (x := w) pl.isList.typeIs slot_list_getitem.lookup
      (wpAny_getItem_list_neg (Q := fun r s' => r = w ∧ EP X pins σ Q r s') pl.isList (by omega) (by rw [List.size_toArray] <;> omega) (by omega) (by rw [hj]; simpa using ew) ⟨rfl, fin⟩) hs
theorem ix_tup : IxR X (rIxT X.K) := by
  intro value slice pins s σ H x y v u Q I rx ry h hs
  obtain ⟨p, xs, i, z, rfl, rfl, hq, he, q⟩ := h
  cases rx
  obtain ⟨t, rfl⟩ := ry
  obtain ⟨its, r, pl, hz⟩ := I.tuple hq
  obtain ⟨j, h1, h2, h3, h4, h5⟩ := atI_get he
  obtain ⟨w, ew, rw'⟩ := r.get h2
  have hl := r.length
  have hn := line63
  have fin : EP X pins σ Q w s := ⟨z, H, I, rw', q⟩
  exact subscriptTail_builtinR (x := w) pl.typeIs slot_tuple_getitem.lookup
    (getItem_tuple (j := j) (Q := fun r s' => r = w ∧ EP X pins σ Q r s') pl (by omega) (by omega) (by rw [List.size_toArray, ← hl]; exact h1) (by simpa using ew) ⟨rfl, fin⟩) hs
theorem slice_bounds (lo hi : Option Int) (n : Nat) : (sliceBounds lo hi none n).1 = ((HT.sIx n 0 lo : Nat) : Int) ∧ (sliceBounds lo hi none n).2.1 = ((HT.sIx n n hi : Nat) : Int) ∧ (sliceBounds lo hi none n).2.2 = 1 := by
  refine ⟨?_, ?_, rfl⟩
  · cases lo with
    | none => simp [sliceBounds, HT.sIx]
    | some i =>
      simp only [sliceBounds, HT.sIx, Option.getD_none, show (1 : Int) > 0 by decide, if_true]
      by_cases h : i < 0
      · simp only [h, if_true] <;> omega
      · simp only [h, if_false] <;> omega
  · cases hi with
    | none => simp [sliceBounds, HT.sIx]
    | some i =>
      simp only [sliceBounds, HT.sIx, Option.getD_none, show (1 : Int) > 0 by decide, if_true]
      by_cases h : i < 0
      · simp only [h, if_true] <;> omega
      · simp only [h, if_false] <;> omega
theorem slicePick_cut (its : List Value) (lo hi : Option Int) : slicePick its.toArray lo hi none = ((its.drop (HT.sIx its.length 0 lo)).take (HT.sIx its.length its.length hi - HT.sIx its.length 0 lo)).toArray := by
  obtain ⟨h1, h2, h3⟩ := slice_bounds lo hi its.toArray.size
  unfold slicePick
  rw [h1, h2, h3]
  simp only [sliceRange_one, pick_run, List.size_toArray] <;> rfl
def rSlL (K : PySem.W.Frag) : V → Option Int → Option Int → Hp → VK → Prop := fun x lo hi H Q => ∃ a xs, x = .ref a ∧ SqL K H a xs ∧ ∀ p, H p = none → Q (.ref p) (upd H p (.lst (cutV xs lo hi)))
theorem sl_list : SlR X (rSlL X.K) := by
  intro pins s σ H x v vl vu lo hi sl Q I rx hs pl pu h
  obtain ⟨a, xs, rfl, hx, q⟩ := h
  cases rx
  obtain ⟨its, r, ht, hz⟩ := I.list hx
  have hlen := r.length
  refine ⟨"list", _, slot_list_getitem.lookup, ht.isList.typeIs, ?_⟩
  refine wpAny_getItem_list_slice ht.isList hs pl pu .none (by simp) ?_ (by rw [List.size_toArray] <;> omega)
  rw [slicePick_cut, ← hlen]
  refine ⟨.ref s.heap.objs.size, _, I.laid (t' := s.toks) (o := .lst (cutV xs lo hi)) (fun b ob q => Heap.get?_push_of_some _ q) (Nat.le_refl _) ?_, rfl, q _ (I.hok.fresh (Nat.le_refl _))⟩
  exact ⟨Nat.le_trans (cutV_length xs lo hi) hz, _, 0, (r.drop (HT.sIx xs.length 0 lo)).take (HT.sIx xs.length xs.length hi - HT.sIx xs.length 0 lo), Heap.get?_push_size _ rfl⟩
def flatV : V → Bool
  | .non => true
  | .bl _ => true
  | .int _ => true
  | .str _ => true
  | _ => false
def eqV : V → V → Bool
  | .non, .non => true
  | .bl a, .bl b => a == b
  | .bl a, .int b => (if a then 1 else 0) == b
  | .int a, .bl b => a == (if b then 1 else 0)
  | .int a, .int b => a == b
  | .str a, .str b => a == b
  | _, _ => false
theorem eqAt_V {A : Around} {s : Shared} {y x : V} {u v : Value} (ry : RelV y u) (rx : RelV x v) (fy : flatV y = true) (fx : flatV x = true) : SeqAt.EqAt A s u v (eqV y x) := by
  cases y with
  | non =>
    cases ry
    cases x with
    | non => cases rx; exact SeqAt.EqAt.same _
    | bl b => cases rx; exact SeqAt.EqAt.none_bool b
    | int b => obtain ⟨t, rfl⟩ := rx; exact SeqAt.EqAt.none_int b t
    | str b => obtain ⟨t, rfl⟩ := rx; exact SeqAt.EqAt.none_str b t
    | _ => exact absurd (show false = true from fx) Bool.false_ne_true
  | bl a =>
    cases ry
    cases x with
    | non => cases rx; exact SeqAt.EqAt.bool_none a
    | bl b => cases rx; exact SeqAt.EqAt.bool_bool a b
    | int b => obtain ⟨t, rfl⟩ := rx; exact SeqAt.EqAt.bool_int a b t
    | str b => obtain ⟨t, rfl⟩ := rx; exact SeqAt.EqAt.bool_str a b t
    | _ => exact absurd (show false = true from fx) Bool.false_ne_true
  | int a =>
    obtain ⟨t', rfl⟩ := ry
    cases x with
    | non => cases rx; exact SeqAt.EqAt.int_none a t'
    | bl b => cases rx; exact SeqAt.EqAt.int_bool a t' b
    | int b => obtain ⟨t, rfl⟩ := rx; exact SeqAt.EqAt.int_int a t' b t
    | str b => obtain ⟨t, rfl⟩ := rx; exact SeqAt.EqAt.int_str a t' b t
    | _ => exact absurd (show false = true from fx) Bool.false_ne_true
  | str a =>
    obtain ⟨t', rfl⟩ := ry
    cases x with
    | non => cases rx; exact SeqAt.EqAt.str_none a t'
    | bl b => cases rx; exact SeqAt.EqAt.str_bool a t' b
    | int b => obtain ⟨t, rfl⟩ := rx; exact SeqAt.EqAt.str_int a t' b t
    | str b => obtain ⟨t, rfl⟩ := rx; exact SeqAt.EqAt.str_str a t' b t
    | _ => exact absurd (show false = true from fx) Bool.false_ne_true
  | _ => exact absurd (show false = true from fy) Bool.false_ne_true
def eqU (x : V) (u : Value) : Bool := match u with
  | .none => eqV .non x
  | .bool b => eqV (.bl b) x
  | .int i _ => eqV (.int i) x
  | .str z _ => eqV (.str z) x
  | _ => false
theorem eqU_of {x y : V} {u : Value} (r : RelV y u) (f : flatV y = true) : eqU x u = eqV y x := by
  cases y with
  | non => cases r; rfl
  | bl b => cases r; rfl
  | int i => obtain ⟨t, rfl⟩ := r; rfl
  | str z => obtain ⟨t, rfl⟩ := r; rfl
  | _ => exact absurd (show false = true from f) Bool.false_ne_true
theorem any_eqU {x : V} : ∀ {xs : List V} {us : List Value}, Vals xs us → xs.all flatV = true → us.any (eqU x) = xs.any fun y => eqV y x
  | _, _, .nil, _ => rfl
  | y :: xs, u :: us, .cons r t, f => by
    rw [List.all_cons, Bool.and_eq_true] at f
    rw [List.any_cons, List.any_cons, eqU_of r f.1, any_eqU t f.2]
theorem mem_eqAt {A : Around} {s : Shared} {x : V} {v : Value} (rx : RelV x v) (fx : flatV x = true) : ∀ {xs : List V} {us : List Value}, Vals xs us → xs.all flatV = true → ∀ u ∈ us, SeqAt.EqAt A s u v (eqU x u)
  | _, _, .nil, _ => fun u hu => by cases hu
  | y :: xs, u :: us, .cons r t, f => fun u' hu => by
    rw [List.all_cons, Bool.and_eq_true] at f
    rcases List.mem_cons.mp hu with rfl | hu
    · rw [eqU_of r f.1]; exact eqAt_V r rx f.1 fx
    · exact mem_eqAt rx fx t f.2 u' hu
def inV (x : V) (xs : List V) : Bool := xs.any fun y => eqV y x
def rIn (K : PySem.W.Frag) (neg : Bool) : R2 := fun x y H Q => ∃ p xs, y = .ref p ∧ (SqL K H p xs ∨ SqT K H p xs) ∧ flatV x = true ∧ xs.all flatV = true ∧ Q (.bl (if neg then !inV x xs else inV x xs)) H
theorem op_in_seq : OpR X (compareOp .In) (rIn X.K false) := by
  intro pins s σ H x y v u Q I rx ry h
  obtain ⟨p, xs, rfl, hq, fx, fs, q⟩ := h
  cases ry
  rcases hq with hq | hq
  · obtain ⟨its, r, pl, hz⟩ := I.list hq
    refine SeqAt.in_listAt (eqU x) pl.isList (fun w hw => mem_eqAt rx fx r fs w (by simpa using hw)) ⟨.bl _, H, I, rfl, ?_⟩
    rw [show its.toArray.any (eqU x) = its.any (eqU x) by simp, any_eqU r fs]
    exact q
  · obtain ⟨its, r, pl, hz⟩ := I.tuple hq
    refine SeqAt.in_tupleAt (eqU x) pl (fun w hw => mem_eqAt rx fx r fs w (by simpa using hw)) ⟨.bl _, H, I, rfl, ?_⟩
    rw [show its.toArray.any (eqU x) = its.any (eqU x) by simp, any_eqU r fs]
    exact q
theorem call_len_seq : CallR X (.builtin "len") (fun xs H Q => ∃ p ys, xs = [.ref p] ∧ (SqL X.K H p ys ∨ SqT X.K H p ys) ∧ Q (.int ys.length) H) := by
  intro pins s σ H xs us Q I r h
  obtain ⟨p, ys, rfl, hq, q⟩ := h
  obtain ⟨u, rfl, rx⟩ := vals1 r
  cases rx
  have hn := line63
  rcases hq with hq | hq
  · obtain ⟨its, r', pl, hz⟩ := I.list hq
    have hlen := r'.length
    exact Calls.call_len_list pl.isList (by simp only [List.size_toArray] <;> omega) ⟨.int ys.length, H, I.tok _, ⟨s.toks + 1, by rw [List.size_toArray, hlen]⟩, q⟩
  · obtain ⟨its, r', pl, hz⟩ := I.tuple hq
    have hlen := r'.length
    exact len_tuple pl (by simp only [List.size_toArray] <;> omega) ⟨.int ys.length, H, I.tok _, ⟨s.toks + 1, by rw [List.size_toArray, hlen]⟩, q⟩
theorem call_list_of : CallR X (.type "list") (fun xs H Q => ∃ p ys, xs = [.ref p] ∧ (SqL X.K H p ys ∨ SqT X.K H p ys) ∧ ∀ l, H l = none → Q (.ref l) (upd H l (.lst ys))) := by
  intro pins s σ H xs us Q I r h
  obtain ⟨p, ys, rfl, hq, q⟩ := h
  obtain ⟨u, rfl, rx⟩ := vals1 r
  cases rx
  have fin : ∀ (its : List Value), Vals ys its → ys.length ≤ sizeLine → ∀ (h' : Heap) (c' : Nat), (∀ b o', s.heap.get? b = some o' → h'.get? b = some o') →
      h'.get? s.heap.objs.size = some { cls := .type "list", dict := none, data := .seq its.toArray c', slots := #[] } → EP X pins σ Q (.ref s.heap.objs.size) { s with heap := h' } := fun its r' hz h' c' kp e =>
    ⟨.ref s.heap.objs.size, _, I.laid (t' := s.toks) kp (Nat.le_refl _) (show ObjOk X.prog X.w _ h' _ (.lst ys) from ⟨hz, its, c', r', e⟩), rfl, q _ (I.hok.fresh (Nat.le_refl _))⟩
  rcases hq with hq | hq
  · obtain ⟨its, r', pl, hz⟩ := I.list hq
    have hlen := r'.length
    obtain ⟨o, ho, hc, n, hd⟩ := pl.isList
    exact call_list_seq p (.inl rfl) ho hc hd (fun h' c' kp e => fin its r' hz h' c' kp e) (by simp only [List.size_toArray] <;> omega)
  · obtain ⟨its, r', pl, hz⟩ := I.tuple hq
    have hlen := r'.length
    obtain ⟨o, ho, hc, n, hd⟩ := pl
    exact call_list_seq p (.inr rfl) ho hc hd (fun h' c' kp e => fin its r' hz h' c' kp e) (by simp only [List.size_toArray] <;> omega)
theorem call_tuple_of : CallR X (.type "tuple") (fun xs H Q => ∃ p ys, xs = [.ref p] ∧ ((SqL X.K H p ys ∧ ∀ l, H l = none → Q (.ref l) (upd H l (.tup ys))) ∨ (SqT X.K H p ys ∧ Q (.ref p) H))) := by
  intro pins s σ H xs us Q I r h
  obtain ⟨p, ys, rfl, h⟩ := h
  obtain ⟨u, rfl, rx⟩ := vals1 r
  cases rx
  rcases h with ⟨hq, q⟩ | ⟨hq, q⟩
  · obtain ⟨its, r', pl, hz⟩ := I.list hq
    have hlen := r'.length
    refine call_tuple_list pl.isList (fun h' kp => ?_) (by simp only [List.size_toArray] <;> omega)
    have I1 : Inv X pins σ H { s with heap := h' } := I.kept (t' := s.toks) kp
    have I2 : Inv X pins σ (upd H h'.objs.size (.tup ys)) { s with heap := h'.push { cls := .type "tuple", data := .seq its.toArray } } :=
      I1.laid (t' := s.toks) (fun b o e => Heap.get?_push_of_some _ e) (Nat.le_refl _) (show ObjOk X.prog X.w _ _ _ (.tup ys) from ⟨hz, its, r', IsTup.new _ _⟩)
    exact ⟨.ref h'.objs.size, _, I2, rfl, q _ (I1.hok.fresh (Nat.le_refl _))⟩
  · obtain ⟨its, r', pl, hz⟩ := I.tuple hq
    exact call_tuple_same pl ⟨.ref p, H, I, rfl, q⟩
def tyV (K : PySem.W.Frag) (T : String) (x : V) (H : Hp) : Prop := match x with
  | .str _ => T = "str"
  | .int _ => T = "int"
  | .ref p => (T = "list" ∧ ∃ xs, SqL K H p xs) ∨ (T = "tuple" ∧ ∃ o, K.lookup p = some o ∧ o.cls = .type "tuple" ∧ o.dict = none) ∨
      (T = "dict" ∧ ((∃ kvs, H p = some (.dK kvs)) ∨ ∃ kvs, H p = some (.dT kvs))) ∨ (T = "set" ∧ ∃ S n, H p = some (.set S n))
  | _ => False
theorem tyV_is {pins : List (Addr × Obj)} {σ : St} {H : Hp} {s : Shared} {T : String} {x : V} {v : Value} (I : Inv X pins σ H s) (r : RelV x v) (ty : tyV X.K T x H) :
    s.TypeIs v T ∧ ∀ a, v = .ref a → ∃ ob, s.heap.get? a = some ob ∧ ob.dict = none := by
  cases x with
  | str z =>
    obtain ⟨t, rfl⟩ := r
    cases (show T = "str" from ty)
    exact ⟨typeIs_str s z t, fun _ e => nomatch e⟩
  | int i =>
    obtain ⟨t, rfl⟩ := r
    cases (show T = "int" from ty)
    exact ⟨typeIs_int s i t, fun _ e => nomatch e⟩
  | ref p =>
    cases r
    rcases ty with ⟨rfl, xs, hq⟩ | ⟨rfl, o, hk, hc, hd⟩ | ⟨rfl, hk⟩ | ⟨rfl, S, n, hk⟩
    · obtain ⟨its, _, pl, _⟩ := I.list hq
      refine ⟨pl.isList.typeIs, fun a e => ?_⟩
      cases e
      obtain ⟨o, n, e, c, hd, _⟩ := pl
      exact ⟨o, e, hd⟩
    · refine ⟨⟨o, I.kIn p o hk, hc⟩, fun a e => ?_⟩
      cases e
      exact ⟨o, I.kIn _ o hk, hd⟩
    · have z : ∃ o, s.heap.get? p = some o ∧ o.ExactDict := by
        rcases hk with ⟨kvs, hk⟩ | ⟨kvs, hk⟩
        · obtain ⟨_, _, _, _, o, _, _, e, ex, _⟩ := I.hok p _ hk
          exact ⟨o, e, ex⟩
        · obtain ⟨_, _, _, _, o, _, _, e, ex, _⟩ := I.hok p _ hk
          exact ⟨o, e, ex⟩
      obtain ⟨o, e, ex⟩ := z
      refine ⟨⟨o, e, ex.1⟩, fun a e2 => ?_⟩
      cases e2
      exact ⟨o, e, ex.2.1⟩
    · obtain ⟨o, _, _, _, e, ex, _⟩ := I.hok p _ hk
      refine ⟨⟨o, e, ex.1⟩, fun a e2 => ?_⟩
      cases e2
      exact ⟨o, e, ex.2.1⟩
  | _ => exact False.elim ty
def tBM (K : PySem.W.Frag) (T : String) (r : V → List V → Hp → VK → Prop) (to : TE) (t : TA) : TE := fun σ H Q => to σ H fun x H1 => tyV K T x H1 ∧ t σ H1 fun xs H2 => r x xs H2 Q
variable {o e : Expr} {es : List Expr} {to : TE} {t : TA} {name : Str} {apos cpos : Pos} {T id : String} {r : V → List V → Hp → VK → Prop}
theorem pe_bm (pa : PlainAttrs T) (slot : Slot T name id) (hty : typeOf (.builtin id) = pure (.type "method_descriptor")) (hm : MtR X id r) (ho : PE X o to) (ha : PA X (e :: es) t)
    (hbase : attributeBase o name X.env (eval o X.env) = eval o X.env := by rfl)
    (hfew : ((backTo cpos (starEach (e :: es) X.env)).all (fun x => !x.1) && (backToKw cpos (keywordEach [] X.env)).all (fun x => x.1.isSome)
      && decide ((e :: es).length + ([] : List Keyword).length + (if ([] : List Keyword).isEmpty then 0 else 1) < 30)) = true := by rfl)
    (hline : (apos.endLine == cpos.line) = true := by rfl) (hs : starEach (e :: es) X.env = (false, eval e X.env) :: starEach es X.env := by rfl) (hplain : (backTo cpos (starEach es X.env)).any (·.1) = false := by rfl) :
    PE X (.Call (.Attribute o name apos) (e :: es) [] cpos) (tBM X.K T r to t) := by
  intro pins s σ H Q I h
  refine wpAny_Call_method_late hbase hfew hline rfl (thn (ho pins s σ H _ I h) fun v s1 ⟨x, H1, I1, r1, ty, q1⟩ => ?_)
  obtain ⟨h1, h2⟩ := tyV_is I1 r1 ty
  refine ⟨T, id, pa, slot, hty, h1, h2, ?_⟩
  have hA := ha cpos pins s1 σ H1 _ I1 q1
  rw [hs] at hA ⊢
  refine Calls.callWith_builtin (by show (false || (backTo cpos (starEach es X.env)).any (·.1)) = false; rw [hplain] <;> rfl) (Calls.evalArgs_plain ?_)
  exact thn hA fun us s2 ⟨vs, H2, I2, r2, q2⟩ => hm pins s2 σ H2 x vs v us Q I2 r1 r2 q2
end
end L2
namespace L2
open PySem PySem.Spec PyProof.Rows
def MtM (X : Cx) (id : String) (r : V → List V → Hp → VK → Prop) : Prop :=
  ∀ (pins : List (Addr × Obj)) (s : Shared) (σ : St) (H : Hp) (x : V) (xs : List V) (v : Value) (us : List Value) (Q : VK), Inv X pins σ H s → RelV x v → Vals xs us → r x xs H Q →
    wpAny (model X.prog X.w) X.A (call (.builtin id) (v :: us)) (EP X pins σ Q) X.xe s
theorem Vals.one : ∀ {x : V} {us : List Value}, Vals [x] us → ∃ u, us = [u] ∧ RelV x u
  | _, _, .cons r .nil => ⟨_, rfl, r⟩
section
variable {X : Cx} {pins : List (Addr × Obj)} {σ : St} {H : Hp} {s : Shared} {l b : Addr} {xs ys zs : List V}
theorem Inv.lset {its its' : List Value} {n : Nat} {f : Array Value → Array Value} {t' : Nat} (I : Inv X pins σ H s) (hH : H l = some (.lst xs))
    (e : s.heap.get? l = some { cls := .type "list", data := .seq its.toArray n }) (hf : f its.toArray = its'.toArray) (hv : Vals ys its') (hz : ys.length ≤ sizeLine) :
    Inv X pins σ (upd H l (.lst ys)) { s with heap := s.heap.update l (Obj.mapSeq f), toks := t' } := by
  have q := PySem.IsL.update e f
  rw [hf] at q
  refine I.write (x := l) (e := l) (by rw [hH]; exact trivial) (.inl rfl) (fun b' u hb hu => (Heap.get?_update_other s.heap (Obj.mapSeq f) (Ne.symm hb)).trans hu) ⟨_, q⟩ ?_
  exact ⟨hz, its', _, hv, q⟩
theorem Inv.lnew {its : List Value} {t' : Nat} (I : Inv X pins σ H s) (hv : Vals ys its) (hz : ys.length ≤ sizeLine) :
    Inv X pins σ (upd H s.heap.objs.size (.lst ys)) { s with heap := s.heap.push { cls := .type "list", data := .seq its.toArray }, toks := t' } :=
  I.laid (fun _ _ q => Heap.get?_push_of_some _ q) (Nat.le_refl _) ⟨hz, its, 0, hv, Heap.get?_push_size _ rfl⟩
theorem Inv.fresh (I : Inv X pins σ H s) : H s.heap.objs.size = none := I.hok.fresh (Nat.le_refl _)
theorem Inv.lstM (I : Inv X pins σ H s) (hH : H l = some (.lst xs)) : xs.length ≤ sizeLine ∧ ∃ (its : List Value) (n : Nat), Vals xs its ∧ xs.length = its.length ∧ s.heap.get? l = some { cls := .type "list", data := .seq its.toArray n } := by
  obtain ⟨z, its, n, r, e⟩ := I.hok l _ hH
  exact ⟨z, its, n, r, r.length, e⟩
end
section
variable {X : Cx}
def rAppend : V → List V → Hp → VK → Prop := fun x vs H Q => ∃ l xs y, x = .ref l ∧ vs = [y] ∧ H l = some (.lst xs) ∧ xs.length < sizeLine ∧ Q .non (upd H l (.lst (xs ++ [y])))
theorem mt_append : MtM X "list.append" rAppend := by
  intro pins s σ H x vs v us Q I rx rv h
  obtain ⟨l, xs, y, rfl, rfl, hH, hz, q⟩ := h
  cases rx
  obtain ⟨u, rfl, ru⟩ := rv.one
  obtain ⟨z, its, n, r, hl, e⟩ := I.lstM hH
  refine call_meets F.slot_list_append ⟨_, e, rfl⟩ F.entry_list_append (F.args_list_append_2 _ _) (PySem.list_append l its.toArray n u (by rw [List.size_toArray]; omega)) ⟨e, ?_⟩
  refine ⟨.non, _, I.lset (its' := its ++ [u]) hH e (by simp) (r.append (.cons ru .nil)) ?_, rfl, q⟩
  rw [List.length_append, List.length_singleton]
  omega
def rCat : R2 := fun x y H Q => ∃ l b xs zs, x = .ref l ∧ y = .ref b ∧ H l = some (.lst xs) ∧ H b = some (.lst zs) ∧ xs.length + zs.length ≤ sizeLine ∧ ∀ p, H p = none → Q (.ref p) (upd H p (.lst (xs ++ zs)))
theorem op_cat : OpR X (binaryOp .Add) rCat := by
  intro pins s σ H x y v u Q I rx ry h
  obtain ⟨l, b, xs, zs, rfl, rfl, hH, hB, hz, q⟩ := h
  cases rx
  cases ry
  obtain ⟨z, its, n, r, hl, e⟩ := I.lstM hH
  obtain ⟨z2, its2, n2, r2, hl2, e2⟩ := I.lstM hB
  refine PySem.P.add_list e e2 ?_ (by rw [List.size_toArray, List.size_toArray]; omega)
  have ea : its.toArray ++ its2.toArray = (its ++ its2).toArray := by simp
  rw [ea]
  exact ⟨.ref _, _, I.lnew (t' := s.toks) (r.append r2) (by rw [List.length_append]; omega), rfl, q _ I.fresh⟩
end
section
variable {prog : Program} {w : World} {A : Around} {E : Value → Shared → Prop} {s : Shared}
end
section
variable {X : Cx}
end
end L2
namespace Att
open PySem PySem.W PySem.Calls PyProof.Rows
theorem ints_of_wellAll {P : Params} {h : Heap} : ∀ (ns : List Int) (vs : List Value), WellAll P h vs (ns.map WData.int) → IntsAre vs ns := by
  intro ns
  induction ns with
  | nil =>
    intro vs w
    rw [List.map_nil] at w
    cases w
    exact .nil
  | cons n ns ih =>
    intro vs w
    rw [List.map_cons] at w
    cases w with
    | cons a b =>
      cases a
      exact .cons _ _ (ih _ b)
theorem script_of {l : OpenLaw} {n : Nat} (hn : l.most = some n) {P : Params} {h : Heap} {args : List WData} {vals : List Value}
    (hpre : l.row.toRowW.claim.pre args = true) (hwl : WellAll P h vals args) :
    ∃ a vs ns, vals = [Value.ref a] ∧ args = [WData.list (ns.map WData.int)] ∧ h.get? a = some { cls := .type "list", data := .seq vs.toArray } ∧ IntsAre vs ns ∧ ns.length ≤ n := by
  have hsh : WShape.hasAll [] args [.list .int] = true := (pre_splitW hpre).1
  have hc : l.pre.holds [] { args := args } = true := (pre_splitW hpre).2
  obtain ⟨d, r, rfl, h1, h2⟩ := hasAllW_cons hsh
  obtain rfl := hasAllW_nil h2
  obtain ⟨xs, rfl, h3⟩ := hasW_list h1
  obtain ⟨ns, rfl⟩ := items_int h3
  have hlen : ns.length ≤ n := by
    unfold OpenLaw.pre at hc
    have h4 : (WTm.not (.lt (.lit (.int (n : Int))) (.len (.arg 0)))).holds [] { args := [.list (ns.map .int)] } = true := by
      have h4 := (holds_andW hc).1
      rw [hn] at h4
      exact h4
    have h5 := condW_of h4 (w_not (w_lt w_lit (w_len_list (w_arg rfl))))
    rw [List.length_map] at h5
    refine Nat.le_of_not_lt fun q => ?_
    have q' : (n : Int) < ((ns.length : Nat) : Int) := by omega
    first
      | (rw [decide_eq_true q'] at h5; exact absurd h5 (by decide))
      | (simp at h5; omega)
  cases hwl with
  | cons w1 w2 =>
    cases w2
    cases w1 with
    | list ho hall => exact ⟨_, _, ns, rfl, rfl, ho, ints_of_wellAll ns _ hall, hlen⟩
theorem post_true (l : OpenLaw) (args : List WData) : l.row.toRowW.claim.post args (.bool true) args = true :=
  postW_of (r := l.row.toRowW) (X := (true == true))
    (show WShape.has [] (.bool true) .bool = true by first | rfl | decide | simp [WShape.has, WShape.arms, WShape.armsAll])
    (show (WTm.eq .res (.lit (.bool true))).value [] { args := args, res := some (.bool true), after := args } = some (.bool (true == true)) from w_eq_bool (w_res rfl) w_lit) rfl
theorem attach_call {l : OpenLaw} {n : Nat} {q : Program} {loose : List Str} {XP : (Str → Option Value) → Heap → Prop} {YP : World → Heap → Prop} {d : DefRec}
    (hn : l.most = some n) (hdf : d.params.defaults = [])
    (call : ∀ (w : World) (s₀ s₁ : Shared) (mg mb : Str → Option Value) (fa : Addr) (o : Obj) (pm cd doc : Value) (a : Addr) (vs : List Value) (ns : List Int),
      Ground q loose [] XP w s₀ mg mb s₁.heap → YP w s₁.heap →
      s₁.heap.get? fa = some o → o.data = .func (docDef d.name d.params d.body d.scope pm cd doc) → s₁.heap.CodeRec cd d.name → mg d.name = some (.ref fa) →
      s₁.heap.get? a = some { cls := .type "list", data := .seq vs.toArray } → IntsAre vs ns → ns.length ≤ n → s₁.gens = #[] →
      codeAny (model l.prog w) callerA (.call (.ref fa) ⟨[.ref a], []⟩) (fun r s' => r = .ok (.ret (.bool true)) ∧ OldK s₁.heap s'.heap ∧ s'.os = s₁.os ∧ AllBare s'.gens) s₁) :
    WalkO q loose XP YP l.row.toRowW d [] (fun f vs => PySem.call f vs) := by
  intro w s₀ s₁ mg mb G Y fa o pm cd doc dV kV ho hd hcd hD hmg hg args vals as hpre hlay hrd hwl hlo
  obtain rfl : dV = .none := Dflts.none hD hdf
  obtain rfl : kV = .none := Dflts.noKw hD
  obtain ⟨a, vs, ns, rfl, rfl, hobj, hints, hlen⟩ := script_of hn hpre hwl
  refine enter_call (codeAny_mono (call w s₀ s₁ mg mb fa o pm cd doc a vs ns G Y ho (fd_plain hd) hcd hmg hobj hints hlen hg) fun r s' hq => ?_)
  obtain ⟨rfl, h2, h3, h4⟩ := hq
  exact ⟨.inl ⟨.bool true, .bool true, [], rfl, fun _ => rfl, .bool true, post_true l _, fun _ => ⟨List.Pairwise.nil, fun _ hm => (nomatch hm)⟩⟩, h2, h3, h4⟩
section
variable {prog : Program} {w : World} {A : Around} {E : Value → Shared → Prop} {s : Shared} {K : Frag}
end
end Att
namespace L2
open PySem PySem.Spec PyProof.Rows
theorem vals_ints : ∀ {vs : List Value} {ns : List Int}, IntsAre vs ns → Vals (ns.map V.int) vs
  | _, _, .nil => .nil
  | _, _, .cons n t h => .cons ⟨t, rfl⟩ (vals_ints h)
def Only (H : Hp) : Prop := ∀ b, H b = none ∨ ∃ o xs, H b = some (.frz o (.lst xs))
theorem law_call {P : Program} {w : World} {K : PySem.W.Frag} {mg mb : Str → Option Value} {CX : CXT} {k : Nat} {fa a : Addr} {fd : FuncData} {x : Str} {sp : Sp} {s₁ : Shared} {vs : List Value} {ns : List Int}
    (KX : K.In s₁.heap) (hns : s₁.heap.Ns mainGlobals mg) (hb : s₁.heap.Ns builtinsNs mb) (hbb : ∀ x : Str, x ≠ "__name__" → mb x = bootBuiltins x) (hlim : s₁.heap.NoLimit) (hg : s₁.gens = #[])
    (ha : s₁.heap.get? a = some { cls := .type "list", data := .seq vs.toArray }) (hi : IntsAre vs ns) (hl : ns.length ≤ sizeLine) (hr : Room k callerA)
    (F : ∀ base : Heap, K.In base → base.Ns mainGlobals mg → FnOk P w K mg base CX k fa fd [x] sp) (hbind : ∀ (s : Shared) (u : Value), BindsTo s fd ⟨[u], []⟩ [(x, u)])
    (hsp : ∀ H : Hp, Only H → SqL K H a (ns.map V.int) → sp [.ref a] H (fun v _ => v = .bl true) fun _ _ _ => False)
    (hCX : ∀ H e s', CX [] H s₁ (fun _ _ _ => False) e s' → False) :
    codeAny (model P w) callerA (.call (.ref fa) ⟨[.ref a], []⟩) (fun r s' => r = .ok (.ret (.bool true)) ∧ OldK s₁.heap s'.heap ∧ s'.os = s₁.os ∧ AllBare s'.gens) s₁ := by
  have rv := vals_ints hi
  have lenV := hi.length
  -- from an abstract heap in which nothing but the script may be tracked
  have core : ∀ H : Hp, Only H → SqL K H a (ns.map V.int) → HOk P w H s₁.heap → (∀ b, H b ≠ none → b = a) → (H a ≠ none → K.lookup a = none) →
      codeAny (model P w) callerA (.call (.ref fa) ⟨[.ref a], []⟩) (fun r s' => r = .ok (.ret (.bool true)) ∧ OldK s₁.heap s'.heap ∧ s'.os = s₁.os ∧ AllBare s'.gens) s₁ := by
    intro H hO hS hok hA hK
    have base_of : ∀ {b : Addr} {o : Obj}, s₁.heap.get? b = some o → H b = none → (hidT s₁.heap H).get? b = some o := fun e n => hidT_get e n
    have noA : ∀ {b : Addr} {o : Obj} {es : Array DictEntry} {ep : Nat}, s₁.heap.get? b = some o → o.data = .dict es ep → H b = none := fun {b o es ep} e d => by
      cases q : H b with
      | none => rfl
      | some u =>
        have e' : b = a := hA b (by rw [q]; simp)
        subst e'
        rw [ha] at e; cases e
        have d' : Data.seq vs.toArray _ = Data.dict es ep := d
        cases d'
    have nsK : ∀ {b : Addr} {m : Str → Option Value}, s₁.heap.Ns b m → (hidT s₁.heap H).Ns b m := fun {b m} ⟨o, es, ep, e, d, r⟩ => ⟨o, es, ep, base_of e (noA e d), d, r⟩
    have hKb : K.In (hidT s₁.heap H) := fun b o e => base_of (KX b o e) (by
      cases q : H b with
      | none => rfl
      | some u =>
        have e' : b = a := hA b (by rw [q]; simp)
        subst e'
        rw [hK (by rw [q]; simp)] at e; cases e)
    have hM : Mod K mg (hidT s₁.heap H) := ⟨hKb, nsK hns, ⟨mb, nsK hb, hbb⟩, let ⟨mc, h1, h2⟩ := hlim; ⟨mc, nsK h1, h2⟩⟩
    have e0 : Env0 P w K mg (hidT s₁.heap H) callerA [] s₁ H := ⟨rfl, hM, fun b o e => of_hidT e, Nat.le_of_eq (hidT_size _ _), trivial, fun b hb => absurd (show b ∈ ([] : List Addr) from hb) (by simp), hok, .of_eq hg⟩
    refine codeAny_mono ((F _ hKb (nsK hns)).run callerA [] s₁ H ⟨[.ref a], []⟩ [.ref a] [.ref a] _ _ hr e0 (hbind s₁ (.ref a)) (.cons rfl .nil) (hsp H hO hS)) fun r s' h => ?_
    cases r with
    | error e => exact (hCX H e s' h).elim
    | ok fl =>
      cases fl with
      | next => exact False.elim h
      | brk => exact False.elim h
      | cont => exact False.elim h
      | ret u =>
        obtain ⟨v, H', os, bare, un, hok', r', q⟩ := h
        have q' : v = .bl true := q
        subst q'
        obtain rfl : u = Value.bool true := r'
        refine ⟨rfl, OldK.of_keep fun b o e => ?_, os, bare⟩
        cases q : H b with
        | none => exact un.keep b o e q (by intro z; exact absurd (show b ∈ ([] : List Addr) from z) (by simp)) (by simp)
        | some u =>
          rcases hO b with z | ⟨ob, xs, z⟩
          · rw [q] at z; cases z
          · have z2 := un.frzs b ob _ z
            obtain ⟨e1, _⟩ := hok b _ z
            obtain ⟨e2, _⟩ := hok' b _ z2
            rw [e] at e1; cases e1
            exact e2
  cases hk : K.lookup a with
  | some o =>
    -- the script is one of the module's own objects
    have e := KX a o hk
    rw [ha] at e
    cases e
    refine core (fun _ => none) (fun _ => .inl rfl) (.inr ⟨_, vs.toArray, _, hk, rfl, rfl, rfl, by rw [List.size_toArray, lenV]; exact hl, by simpa using rv⟩) (fun b u z => by have z' : (none : Option HO) = some u := z; cases z') (fun b z => absurd rfl z) fun z => absurd rfl z
  | none =>
    refine core (fun b => if b = a then some (.frz { cls := .type "list", data := .seq vs.toArray } (.lst (ns.map V.int))) else none) (fun b => ?_) (.inl (.inr ⟨{ cls := .type "list", data := .seq vs.toArray }, if_pos rfl⟩)) (fun b u z => ?_) (fun b z => ?_) fun _ => hk
    · by_cases hb : b = a
      · exact .inr ⟨_, _, if_pos hb⟩
      · exact .inl (if_neg hb)
    · by_cases hb : b = a
      · have z' := (if_pos hb).symm.trans z
        cases z'
        subst hb
        exact ⟨ha, by rw [List.length_map]; exact hl, vs, _, rv, ha⟩
      · have z' := (if_neg hb).symm.trans z
        cases z'
    · by_cases hb : b = a
      · exact hb
      · exact absurd (if_neg hb) z
end L2
namespace L2
open PySem PySem.Spec PyProof.Rows
theorem walk_of {l : PySem.W.OpenLaw} {n k : Nat} {q : Program} {loose : List Str} {XP : (Str → Option Value) → Heap → Prop} {YP : World → Heap → Prop} {d : DefRec} {K : Params → PySem.W.Frag} {CX : World → CXT} {sp : World → Sp} {x : Str}
    (hn : l.most = some n) (hn2 : n ≤ sizeLine) (hdf : d.params.defaults = []) (hr : Room k callerA)
    (hY : ∀ (w : World) (h : Heap), YP w h → (K w.params).In h)
    (F : ∀ (w : World) (mg : Str → Option Value) (fa : Addr) (h : Heap), (K w.params).In h → h.Ns mainGlobals mg → mg d.name = some (.ref fa) →
      ∃ fd : FuncData, (∀ (s : Shared) (u : Value), BindsTo s fd ⟨[u], []⟩ [(x, u)]) ∧
        ∀ base : Heap, (K w.params).In base → base.Ns mainGlobals mg → FnOk l.prog w (K w.params) mg base (CX w) k fa fd [x] (sp w))
    (hsp : ∀ (w : World) (H : Hp) (a : Addr) (ns : List Int), ns.length ≤ n → Only H → SqL (K w.params) H a (ns.map V.int) → sp w [.ref a] H (fun v _ => v = .bl true) fun _ _ _ => False)
    (hCX : ∀ (w : World) (H : Hp) (s : Shared) (e : Value) (s' : Shared), CX w [] H s (fun _ _ _ => False) e s' → False) :
    PySem.W.WalkO q loose XP YP l.row.toRowW d [] (fun f vs => PySem.call f vs) := by
  refine Att.attach_call hn hdf fun w s₀ s₁ mg mb fa o pm cd doc a vs ns G Y ho hd hcd hmg hobj hints hlen hg => ?_
  have KX := hY w _ Y
  obtain ⟨fd, hb, hF⟩ := F w mg fa _ KX G.T.g hmg
  exact law_call KX G.T.g G.T.b G.T.builtins G.T.nolimit hg hobj hints (Nat.le_trans hlen hn2) hr hF hb (fun H hO hS => hsp w H a ns hlen hO hS) fun H e s' => hCX w H s₁ e s'
end L2
namespace L2
open PySem PySem.Spec PyProof.Rows
def inClass (s : Stmt) (j : Nat) : Stmt := match s with
  | .ClassDef _ _ _ body _ _ _ _ _ _ _ => body.getD j (.Pass ⟨0, 0, 0, 0⟩)
  | _ => .Pass ⟨0, 0, 0, 0⟩
def defArgs (s : Stmt) : Arguments := match s with
  | .FunctionDef _ a _ _ _ _ _ _ _ _ => a
  | _ => { posonlyargs := [], args := [], vararg := none, kwonlyargs := [], kw_defaults := [], kwarg := none, defaults := [] }
def defBody (s : Stmt) : List Stmt := match s with
  | .FunctionDef _ _ b _ _ _ _ _ _ _ => b
  | _ => []
def defScope (s : Stmt) : Scope := match s with
  | .FunctionDef _ _ _ _ _ _ sc _ _ _ => sc
  | _ => { kind := .function, names := [], isGenerator := false, isCoroutine := false }
abbrev CX0 : CXT := fun _ _ _ _ _ _ => False
abbrev E0 : XK := fun _ _ _ => False
theorem pass0 {X : Cx} : Passes CX0 X E0 := fun _ _ _ _ _ _ _ h => h.elim
structure Fun (K : PySem.W.Frag) (x qual : Str) (st : Stmt) (f : Addr) (fd : FuncData) : Prop where
  ex : ∃ (oc : Value) (od : Option Addr) (kV doc pm : Value) (an : Option Addr) (cdv ct : Value) (osl : Array (Option Value)),
    fd = PySem.W.fnOf x qual (defArgs st) (defBody st) (defScope st) .none kV doc pm an cdv ct ∧ K.lookup f = some ⟨oc, od, .func fd, osl⟩ ∧ PySem.W.codeIn K cdv qual = true
  kp : PySem.W.keepIn K (.ref f) = true
section
variable {P : Program} {w : World} {K : PySem.W.Frag} {mg : Str → Option Value} {base : Heap}
theorem Fun.ok {x qual : Str} {st : Stmt} {f : Addr} {fd : FuncData} {N ps : List Str} {k : Nat} {sp : Sp} (F : Fun K x qual st f fd) (S : FnScope N ps (defScope st)) (len : ∀ vs H Q E, sp vs H Q E → vs.length = ps.length)
    (hbody : ∀ (cdv : Value) (A : Around) (outer : List Env) (s : Shared) (H : Hp) (vs : List V) (Q : VK) (E : XK), Room k (A.deeper (envOfC qual (defScope st) s.heap.objs.size f cdv)) → sp vs H Q E →
      ∃ t, PSs (cxOf CX0 P w K mg base N qual (defScope st) f cdv A outer s H E).nox (defBody st) t ∧ t { nx := fun _ H' => Q .non H', rt := Q } (start N vs) H) : FnOk P w K mg base CX0 (k + 1) f fd ps sp := by
  obtain ⟨oc, od, kV, doc, pm, an, cdv, ct, osl, rfl, lk, hcd⟩ := F.ex
  refine fn_of lk hcd S len fun A outer s H vs Q E hr hsp => ?_
  obtain ⟨t, h, q⟩ := hbody cdv A outer s H vs Q E hr hsp
  exact ⟨t, h.nox, q⟩
theorem Fun.binds {x qual : Str} {st : Stmt} {f : Addr} {fd : FuncData} {ps : List Str} (F : Fun K x qual st f fd)
    (h : ∀ (kV doc pm : Value) (an : Option Addr) (cdv ct : Value) (us : List Value), us.length = ps.length → bindArgs (PySem.W.fnOf x qual (defArgs st) (defBody st) (defScope st) .none kV doc pm an cdv ct) ⟨us, []⟩ = pure (ps.zip us)) : Binds K fd ps [] := by
  obtain ⟨oc, od, kV, doc, pm, an, cdv, ct, osl, rfl, lk, hcd⟩ := F.ex
  exact .all (h kV doc pm an cdv ct)
theorem fun_mk {x qual : Str} {st : Stmt} {f : Addr} {oc : Value} {od an : Option Addr} {osl : Array (Option Value)} {kV doc pm cdv ct : Value} (l : K.lookup f = some ⟨oc, od, .func (PySem.W.fnOf x qual (defArgs st) (defBody st) (defScope st) .none kV doc pm an cdv ct), osl⟩)
    (c : PySem.W.codeIn K cdv qual = true) (k : PySem.W.keepIn K (.ref f) = true) : Fun K x qual st f (PySem.W.fnOf x qual (defArgs st) (defBody st) (defScope st) .none kV doc pm an cdv ct) := ⟨⟨oc, od, kV, doc, pm, an, cdv, ct, osl, rfl, l, c⟩, k⟩
end
theorem hu_of {A : Around} {k : Nat} (hr : Room k A) : A.units + 1 < cLine := Nat.lt_of_le_of_lt (Nat.add_le_add_left (by decide : 1 ≤ 64) _) hr.units
theorem small1000 {n : Nat} (h : n ≤ 1000) : n < sizeLine := Nat.lt_of_le_of_lt h (by decide)
section
variable {X : Cx}
theorem pv (i : Nat) {x : Str} {pos : Pos} (hN : X.N[i]? = some x := by rfl) (hv : Vis X.env.scope x := by first | exact Or.inl rfl | exact Or.inr (Or.inl rfl) | exact Or.inr (Or.inr rfl)) (hd : (x == ("__debug__" : Str)) = false := by decide)
    (hcd : (x == ("__classdict__" : Str)) = false := by decide) : PE X (.Name x pos) (tVar i) := pe_var hN hv hd hcd
end
theorem iteF {A B : Prop} (h : B) : if false = true then A else B := by
  rw [if_neg Bool.false_ne_true]
  exact h
theorem iteT {A B : Prop} (h : A) : if true = true then A else B := by
  rw [if_pos rfl]
  exact h
def Same (H H' : Hp) : Prop := ∀ b o, H b = some o → H' b = some o
theorem Same.refl (H : Hp) : Same H H := fun _ _ h => h
theorem Same.trans {H H1 H2 : Hp} (a : Same H H1) (b : Same H1 H2) : Same H H2 := fun c o h => b c o (a c o h)
theorem Same.free {H H' : Hp} (e : Same H H') {l : Addr} (h : H' l = Option.none) : H l = Option.none := by
  cases q : H l with
  | none => rfl
  | some o =>
    rw [e l o q] at h
    cases h
theorem Same.seq {K : PySem.W.Frag} {H H' : Hp} {a : Addr} {xs : List V} (e : Same H H') (h : SqL K H a xs) : SqL K H' a xs := by
  rcases h with (h | ⟨o, h⟩) | h
  · exact .inl (.inl (e _ _ h))
  · exact .inl (.inr ⟨o, e _ _ h⟩)
  · exact .inr h
end L2
namespace L2
open PySem PySem.Spec PyProof.Rows
section
variable {κ : Type} [DecidableEq κ]
def valV (kvs : List (κ × V)) (k : κ) : Option V := (kvs.find? fun kv => decide (kv.1 = k)).map (·.2)
def putK (kvs : List (κ × V)) (k : κ) (v : V) : List (κ × V) :=
  if (kvs.any fun kv => decide (kv.1 = k)) = true then kvs.map (fun kv => if kv.1 = k then (kv.1, v) else kv) else kvs ++ [(k, v)]
theorem valV_nil {k : κ} : valV ([] : List (κ × V)) k = none := rfl
theorem valV_pos {p : κ × V} {r : List (κ × V)} {k : κ} (e : p.1 = k) : valV (p :: r) k = some p.2 := by simp [valV, List.find?_cons, e]
theorem valV_neg {p : κ × V} {r : List (κ × V)} {k : κ} (e : ¬ p.1 = k) : valV (p :: r) k = valV r k := by simp [valV, List.find?_cons, e]
theorem length_putK (kvs : List (κ × V)) (k : κ) (v : V) : (putK kvs k v).length ≤ kvs.length + 1 := by
  unfold putK
  split
  · rw [List.length_map]; omega
  · rw [List.length_append, List.length_cons, List.length_nil]; omega
theorem RelO.isSome_eq {o : Option V} {u : Option Value} (r : RelO o u) : o.isSome = u.isSome := by
  cases o with
  | none => cases u with
    | none => rfl
    | some _ => exact (show False from r).elim
  | some _ => cases u with
    | none => exact (show False from r).elim
    | some _ => rfl
theorem KV.val {kvs : List (κ × V)} {vs : List (κ × Value)} (r : KV kvs vs) (k : κ) : RelO (valV kvs k) (valueAt vs k) := by
  unfold KV at r
  induction r with
  | nil => exact True.intro
  | @cons p q ps qs h t ih =>
    obtain ⟨h1, h2⟩ := h
    by_cases e : p.1 = k
    · have e' : q.1 = k := h1.symm.trans e
      have b : valueAt (q :: qs) k = some q.2 := by simp [valueAt, List.find?_cons, e']
      rw [valV_pos e, b]; exact h2
    · have e' : ¬ q.1 = k := fun z => e (h1.trans z)
      have b : valueAt (q :: qs) k = valueAt qs k := by simp [valueAt, List.find?_cons, e']
      rw [valV_neg e, b]; exact ih
theorem KV.any {kvs : List (κ × V)} {vs : List (κ × Value)} (r : KV kvs vs) (k : κ) : (kvs.any fun kv => decide (kv.1 = k)) = vs.any fun kv => decide (kv.1 = k) := by
  unfold KV at r
  induction r with
  | nil => rfl
  | cons h t ih => rw [List.any_cons, List.any_cons, ih, h.1]
theorem KV.repl {kvs : List (κ × V)} {vs : List (κ × Value)} (r : KV kvs vs) (k : κ) {y : V} {u : Value} (ry : RelV y u) :
    KV (kvs.map fun kv => if kv.1 = k then (kv.1, y) else kv) (vs.map fun kv => if kv.1 = k then (kv.1, u) else kv) := by
  unfold KV at r ⊢
  induction r with
  | nil => exact .nil
  | @cons p q ps qs h t ih =>
    rw [List.map_cons, List.map_cons]
    refine .cons ?_ ih
    obtain ⟨h1, h2⟩ := h
    by_cases e : p.1 = k
    · rw [if_pos e, if_pos (h1.symm.trans e)]; exact ⟨h1, ry⟩
    · rw [if_neg e, if_neg (fun z => e (h1.trans z))]; exact ⟨h1, h2⟩
theorem KV.put {kvs : List (κ × V)} {vs : List (κ × Value)} (r : KV kvs vs) (k : κ) {y : V} {u : Value} (ry : RelV y u) : KV (putK kvs k y) (stored vs k u) := by
  unfold putK stored
  rw [r.any k]
  by_cases e : (vs.any fun kv => decide (kv.1 = k)) = true
  · rw [if_pos e, if_pos e]; exact r.repl k ry
  · rw [if_neg e, if_neg e]; exact Paired.snoc r ⟨rfl, ry⟩
end
theorem kV_is {P : Program} {w : World} {k : Key} {u : Value} (r : RelV (kV k) u) : (mixKind P w).is k u = true := by
  cases k with
  | inl i => obtain ⟨t, e⟩ := (show ∃ t, u = Value.int i t from r); subst e; exact mixKind_int P w i t
  | inr x => obtain ⟨t, e⟩ := (show ∃ t, u = Value.str x t from r); subst e; exact mixKind_str P w x t
theorem items_are {P : Program} {w : World} : ∀ {ks : List Key} {us : List Value}, Vals (ks.map kV) us → ItemsAre (mixKind P w) ks us
  | [], _, r => by rw [List.map_nil] at r; cases r; exact .nil
  | k :: ks, _, r => by
    rw [List.map_cons] at r
    cases r with
    | cons h t => exact .cons (kV_is h) (items_are t)
abbrev KT (H : Hp) : List (List Key × V) → List (List Key × Addr × Value) → Prop := Paired fun p q => p.1 = q.1 ∧ H q.2.1 = some (.tup (p.1.map kV)) ∧ RelV p.2 q.2.2
theorem KT.val {H : Hp} {kvs : List (List Key × V)} {xs : List (List Key × Addr × Value)} (r : KT H kvs xs) (k : List Key) : RelO (valV kvs k) ((atKey xs k).map (·.2)) := by
  induction r with
  | nil => exact True.intro
  | @cons p q ps qs h t ih =>
    obtain ⟨h1, _, h2⟩ := h
    by_cases e : p.1 = k
    · have e' : q.1 = k := h1.symm.trans e
      have b : atKey (q :: qs) k = some q.2 := by simp [atKey, List.find?_cons, e']
      rw [valV_pos e, b]; exact h2
    · have e' : ¬ q.1 = k := fun z => e (h1.trans z)
      have b : atKey (q :: qs) k = atKey qs k := by simp [atKey, List.find?_cons, e']
      rw [valV_neg e, b]; exact ih
section
variable {P : Program} {w : World} {H : Hp} {h : Heap} {a : Addr}
theorem rd_of {u : HO} (ok : HOk P w H h) (e : Rd H a u) : ObjOk P w H h a u := e.ok ok
theorem dk_rd {kvs : List (Key × V)} (ok : HOk P w H h) (e : Rd H a (.dK kvs)) : kvs.length ≤ sizeLine ∧ (a == sysModules) = false ∧ ∃ vs, KV kvs vs ∧ h.DictOf (mixKind P w) a vs :=
  show ObjOk P w H h a (.dK kvs) from rd_of ok e
theorem dk_of {kvs : List (Key × V)} (ok : HOk P w H h) (e : H a = some (.dK kvs)) : kvs.length ≤ sizeLine ∧ (a == sysModules) = false ∧ ∃ vs, KV kvs vs ∧ h.DictOf (mixKind P w) a vs := dk_rd ok (.inl e)
theorem key_of {ks : List Key} (ok : HOk P w H h) (e : H a = some (.tup (ks.map kV))) : (tupleKind (mixKind P w)).is h ks a := by
  obtain ⟨_, its, r, o, h1, h2, n, h3⟩ := (show ObjOk P w H h a (.tup (ks.map kV)) from ok a _ e)
  exact ⟨o, its.toArray, n, h1, h2, h3, by simpa using items_are r⟩
theorem dt_rd {kvs : List (List Key × V)} (ok : HOk P w H h) (e : Rd H a (.dT kvs)) : kvs.length ≤ sizeLine ∧ (a == sysModules) = false ∧
    ∃ xs, KT H kvs xs ∧ h.DictOfH (tupleKind (mixKind P w)) a xs := by
  obtain ⟨z, y, xs, r, o, es, ep, h1, h2, h3, h4, h5⟩ := (show ObjOk P w H h a (.dT kvs) from rd_of ok e)
  refine ⟨z, y, xs, r, o, es, ep, h1, h2, h3, h4, fun x hx => ?_, h5⟩
  have all : ∀ {l : List (List Key × V)} {m : List (List Key × Addr × Value)}, KT H l m → ∀ x ∈ m, (tupleKind (mixKind P w)).is h x.1 x.2.1 := by
    intro l m q
    induction q with
    | nil => intro x hx; exact nomatch hx
    | @cons p q ps qs hq t ih =>
      intro x hx
      rcases List.mem_cons.mp hx with e | hx
      · subst e
        exact key_of ok (by rw [← hq.1]; exact hq.2.1)
      · exact ih x hx
  exact all r x hx
end
def DGet (H : Hp) (a : Addr) (y : V) (r : Option V) : Prop :=
  (∃ kvs k, Rd H a (.dK kvs) ∧ y = kV k ∧ r = valV kvs k) ∨ ∃ kvs k b, Rd H a (.dT kvs) ∧ y = .ref b ∧ H b = some (.tup (k.map kV)) ∧ r = valV kvs k
theorem DGet.k {H : Hp} {a : Addr} {kvs : List (Key × V)} {k : Key} (e : H a = some (.dK kvs)) : DGet H a (kV k) (valV kvs k) := .inl ⟨kvs, k, .inl e, rfl, rfl⟩
section
variable {X : Cx} {pins : List (Addr × Obj)} {σ : St} {H : Hp} {s : Shared} {a : Addr} {y v : V} {u r : Value} {o : Option V} {A : Around} {E : Value → Shared → Prop}
theorem Inv.big (I : Inv X pins σ H s) : sysModules < s.heap.objs.size := by
  have h : mainGlobals < s.heap.objs.size := (I.mod.glob.keeps I.bk).lt
  exact Nat.lt_trans (by decide) h
theorem d_getItem {Q : Value → Shared → Prop} (hu : A.units + 1 < cLine) (I : Inv X pins σ H s) (g : DGet H a y (some v)) (ry : RelV y u) (h : ∀ w' s', Inv X pins σ H s' → RelV v w' → Q w' s') :
    wpAny (model X.prog X.w) A (getItem (.ref a) u) Q E s := by
  rcases g with ⟨kvs, k, e, ey, l⟩ | ⟨kvs, k, b, e, ey, eb, l⟩
  · subst ey
    obtain ⟨z, hd, vs, rel, dd⟩ := dk_rd I.hok e
    obtain ⟨w', hw, rw'⟩ := RelO.some_of (v := v) (o := valueAt vs k) (by rw [l]; exact rel.val k)
    exact wpAny_getItem_of (kV_is ry) dd.mapOf hw (h w' _ (I.tok _) rw')
  · subst ey
    cases (show u = Value.ref b from ry)
    obtain ⟨z, hd, xs, rel, dd⟩ := dt_rd I.hok e
    obtain ⟨w', hw, rw'⟩ := RelO.some_of (v := v) (o := (atKey xs k).map (·.2)) (by rw [l]; exact rel.val k)
    obtain ⟨p, hp, hp2⟩ := Option.map_eq_some_iff.mp hw
    refine wpAny_getItem_heap (tupleKind_room_in1 hu) (key_of I.hok eb) dd hp ?_
    rw [hp2]
    exact h w' _ (I.tok _) rw'
theorem d_write {h' : Heap} {t' : Nat} {ob : HO} (I : Inv X pins σ H s) (mu : Mut (H a)) (hs : Heap.SameBut a s.heap h') (he : ∃ q, h'.get? a = some q) (new : ObjOk X.prog X.w (upd H a ob) h' a ob) :
    Inv X pins σ (upd H a ob) { s with heap := h', toks := t' } :=
  I.write (x := a) (e := a) mu (.inl rfl) (fun b q hb z => (hs.2 b hb).trans z) he new
theorem dk_new {P : Program} {w : World} {H' : Hp} {h' : Heap} {kvs : List (Key × V)} {vs : List (Key × Value)} (z : kvs.length ≤ sizeLine) (hd : (a == sysModules) = false) (rel : KV kvs vs) (dd : h'.DictOf (mixKind P w) a vs) :
    ObjOk P w H' h' a (.dK kvs) := ⟨z, hd, vs, rel, dd⟩
end
section
variable {X : Cx} {pins : List (Addr × Obj)} {σ : St} {H : Hp} {s : Shared} {a : Addr} {kvs : List (Key × V)} {k : Key} {u : Value} {A : Around} {E : Value → Shared → Prop}
end
def NoSl (i : Expr) : Prop := ∀ ov iv, subscripted i false ov iv = operate [ov, iv] (getItem ov iv)
theorem subD_of {prog : Program} {w : World} {A : Around} {E : Value → Shared → Prop} {s : Shared} {env : Env} {value slice : Expr} {pos : Pos} {T id : String} {Q : Value → Shared → Prop}
    (hl : typeLookup (.type T) "__getitem__" = pure (some (.builtin id))) (hs : NoSl slice)
    (h : wpAny (model prog w) A (eval value env) (fun o s₁ => wpAny (model prog w) A (eval slice env) (fun i s₂ => s₂.TypeIs o T ∧ wpAny (model prog w) A (getItem o i) Q E s₂) E s₁) E s) :
    wpAny (model prog w) A (eval (.Subscript value slice pos) env) Q E s := by
  refine Subscript_ (wpAny_mono h (fun o s₁ h₁ => wpAny_mono h₁ (fun i s₂ h₂ => ?_) fun _ _ x => x) fun _ _ x => x)
  obtain ⟨hT, h₂⟩ := h₂
  unfold subscriptTail
  refine wpAny_bind ?_
  rw [getitemInPython_of_ne hT.not_modules]
  refine wpAny_bind (wpAny_specialOf hT hl ?_)
  have fin : wpAny (model prog w) A (subscripted slice false o i) (fun r s₃ => wpAny (model prog w) A (letTemporaryGo value o r >>= fun _ => pure r) Q E s₃) E s₂ := by
    rw [hs o i]
    exact wpAny_operating (wpAny_mono h₂ (fun r s₃ h₃ => wpAny_bind (wpAny_letTemporaryGo (wpAny_pure h₃))) fun _ _ x => x)
  first
    | exact wpAny_pure (wpAny_bind fin)
    | exact wpAny_bind (wpAny_pure (wpAny_bind fin))
    | exact wpAny_bind fin
theorem dict_typeIs {X : Cx} {pins : List (Addr × Obj)} {σ : St} {H : Hp} {s : Shared} {a : Addr} {y : V} {o : Option V} (I : Inv X pins σ H s) (g : DGet H a y o) : s.TypeIs (.ref a) "dict" := by
  rcases g with ⟨kvs, k, e, _, _⟩ | ⟨kvs, k, b, e, _, _, _⟩
  · obtain ⟨_, _, vs, _, dd⟩ := dk_rd I.hok e
    exact dd.typeIs
  · obtain ⟨_, _, xs, _, dd⟩ := dt_rd I.hok e
    exact dd.typeIs
def tDGet (td ty : TE) : TE := fun σ H Q => td σ H fun x H1 => ty σ H1 fun y H2 => ∃ a v, x = .ref a ∧ DGet H2 a y (some v) ∧ Q v H2
section
variable {X : Cx} {o i e value : Expr} {pos pos' tpos : Pos} {td ty tv : TE}
theorem pe_dget (hu : X.A.units + 1 < cLine) (ho : PE X o td) (hi : PE X i ty) (hs : NoSl i) : PE X (.Subscript o i pos) (tDGet td ty) := by
  intro pins s σ H Q I h
  refine subD_of PySem.F.slot_dict_getitem.lookup hs (thn (ho pins s σ H _ I h) fun u s1 ⟨x, H1, I1, rx, q1⟩ => thn (hi pins s1 σ H1 _ I1 q1) fun iv s2 ⟨y, H2, I2, ry, a, v, ex, g, q2⟩ => ?_)
  subst ex
  obtain rfl : u = Value.ref a := rx
  exact ⟨dict_typeIs I2 g, d_getItem hu I2 g ry fun w' s3 I3 rw' => ⟨v, H2, I3, rw', q2⟩⟩
end
theorem dk_empty {P : Program} {w : World} {H : Hp} (h : Heap) (hb : sysModules < h.objs.size) : ObjOk P w H (h.push { cls := .type "dict", data := .dict #[] }) h.objs.size (.dK []) :=
  ⟨Nat.zero_le _, beq_eq_false_iff_ne.mpr (Ne.symm (Nat.ne_of_lt hb)), [], .nil, Heap.DictOf.new h⟩
section
variable {X : Cx} {pos : Pos}
end
def tPairs : List (TE × TE) → St → Hp → (List (V × V) → Hp → Prop) → Prop
  | [], _, H, Q => Q [] H
  | (tk, tv) :: r, σ, H, Q => tk σ H fun x H1 => tv σ H1 fun y H2 => tPairs r σ H2 fun ps H3 => Q ((x, y) :: ps) H3
abbrev VV : List (V × V) → List (Value × Value) → Prop := Paired fun p q => RelV p.1 q.1 ∧ RelV p.2 q.2
def PPs (X : Cx) (pos : Pos) (keys : List (Option Expr)) (values : List Expr) (trs : List (TE × TE)) : Prop :=
  ∀ (pins : List (Addr × Obj)) (s : Shared) (σ : St) (H : Hp) (Q : List (V × V) → Hp → Prop), Inv X pins σ H s → tPairs trs σ H Q →
    wpAny (model X.prog X.w) X.A (evalPairs (pairTrees keys values X.env pos)) (fun vs s' => ∃ ps H', Inv X pins σ H' s' ∧ VV ps vs ∧ Q ps H') X.xe s
theorem pps_nil {X : Cx} {pos : Pos} : PPs X pos [] [] [] := fun pins s σ H Q I h => pairTrees_nil_walk ⟨[], H, I, .nil, h⟩
theorem pps_cons {X : Cx} {pos : Pos} {k v : Expr} {ks : List (Option Expr)} {vs : List Expr} {tk tv : TE} {trs : List (TE × TE)} (hk : PE X k tk) (hv : PE X v tv) (hr : PPs X pos ks vs trs) :
    PPs X pos (some k :: ks) (v :: vs) ((tk, tv) :: trs) := fun pins s σ H Q I h =>
  pairTrees_cons_walk (thn (hk pins s σ H _ I h) fun u s1 ⟨x, H1, I1, rx, q1⟩ => thn (hv pins s1 σ H1 _ I1 q1) fun w2 s2 ⟨y, H2, I2, ry, q2⟩ =>
    thn (hr pins s2 σ H2 _ I2 q2) fun ws s3 ⟨ps, H3, I3, rel, q3⟩ => ⟨(x, y) :: ps, H3, I3, .cons ⟨rx, ry⟩ rel, q3⟩)
def mergeK (kvs more : List (Key × V)) : List (Key × V) := more.foldl (fun acc kv => putK acc kv.1 kv.2) kvs
theorem KV.merge : ∀ {more : List (Key × V)} {rs : List (Key × Value)} {kvs : List (Key × V)} {vs : List (Key × Value)}, KV more rs → KV kvs vs → KV (mergeK kvs more) (merged vs rs) := by
  intro more rs kvs vs r
  unfold KV at r
  induction r generalizing kvs vs with
  | nil => intro q; exact q
  | @cons p q ps qs h t ih =>
    intro r0
    have e : KV (putK kvs p.1 p.2) (stored vs q.1 q.2) := by
      have := r0.put p.1 h.2
      rw [← h.1]; exact this
    exact ih e
theorem length_mergeK : ∀ (more kvs : List (Key × V)), (mergeK kvs more).length ≤ kvs.length + more.length
  | [], kvs => by show kvs.length ≤ kvs.length + 0; omega
  | p :: r, kvs => by
    have h1 := length_mergeK r (putK kvs p.1 p.2)
    have h2 := length_putK kvs p.1 p.2
    show (mergeK (putK kvs p.1 p.2) r).length ≤ _
    rw [List.length_cons]; omega
theorem carries_of {P : Program} {w : World} : ∀ {kvs : List (Key × V)} {ws : List (Value × Value)}, VV (kvs.map fun kv => (kV kv.1, kv.2)) ws → ∃ rs, Carries (mixKind P w) ws rs ∧ KV kvs rs
  | [], _, r => by rw [List.map_nil] at r; cases r; exact ⟨[], True.intro, .nil⟩
  | p :: kvs, _, r => by
    rw [List.map_cons] at r
    cases r with
    | @cons a b as bs h t =>
      obtain ⟨rs, c, q⟩ := carries_of (P := P) (w := w) t
      obtain ⟨b1, b2⟩ := b
      exact ⟨(p.1, b2) :: rs, ⟨kV_is h.1, rfl, c⟩, .cons ⟨rfl, h.2⟩ q⟩
def tDisp (trs : List (TE × TE)) : TE := fun σ H Q => ∀ p, H p = none → tPairs trs σ (upd H p (.dK [])) fun ps H2 => H2 p = some (.dK []) ∧ ∃ kvs : List (Key × V), ps = kvs.map (fun kv => (kV kv.1, kv.2)) ∧ kvs.length ≤ 15 ∧ Q (.ref p) (upd H2 p (.dK (mergeK [] kvs)))
theorem pe_disp {X : Cx} {pos : Pos} {keys : List (Option Expr)} {values : List Expr} {trs : List (TE × TE)} (h : PPs X pos keys values trs) (hall : keys.all (·.isSome) = true) (hl : keys.length = values.length) (h0 : keys ≠ [])
    (h15 : keys.length ≤ 15) : PE X (.Dict keys values pos) (tDisp trs) := by
  intro pins s σ H Q I q
  have hn := I.hok.fresh (Nat.le_refl s.heap.objs.size)
  have I1 := I.laid (a := s.heap.objs.size) (o := .dK []) (h' := s.heap.push { cls := .type "dict", data := .dict #[] }) (t' := s.toks) (fun _ _ q => Heap.get?_push_of_some _ q) (Nat.le_refl _) (dk_empty s.heap I.big)
  refine wpAny_Dict_walk (knd := mixKind X.prog X.w) hall hl h0 h15 (thn (h pins _ σ _ _ I1 (q _ hn)) fun ws s2 ⟨ps, H2, I2, rel, e, kvs, ep, lk, q2⟩ => ?_)
  subst ep
  obtain ⟨rs, c, rk⟩ := carries_of (P := X.prog) (w := X.w) rel
  obtain ⟨z, hd, vs0, r0, dd⟩ := dk_of I2.hok e
  cases r0
  refine ⟨rs, c, dd, fun h' dd' hs => ⟨.ref s.heap.objs.size, _, ?_, rfl, q2⟩⟩
  have hz : (mergeK [] kvs).length ≤ sizeLine := by
    have h1 := length_mergeK kvs []
    rw [List.length_nil] at h1
    rw [sizeLine_eq]; omega
  have he : ∃ q, h'.get? s.heap.objs.size = some q := let ⟨q, _, _, hq, _⟩ := dd'; ⟨q, hq⟩
  exact d_write I2 (by rw [e]; exact True.intro) hs he (dk_new hz hd (rk.merge .nil) dd')
section
variable {X : Cx} {pins : List (Addr × Obj)} {σ : St} {H : Hp} {s : Shared} {a : Addr} {y d : V} {u r : Value} {o : Option V} {A : Around} {E : Value → Shared → Prop}
end
section
variable {X : Cx} {o e f : Expr} {apos cpos : Pos} {td ty tx : TE}
end
section
variable {X : Cx} {pins : List (Addr × Obj)} {σ : St} {H : Hp} {s : Shared} {a : Addr} {kvs : List (Key × V)} {A : Around} {E : Value → Shared → Prop}
end
section
variable {X : Cx} {pins : List (Addr × Obj)} {σ : St} {H : Hp} {s : Shared} {a : Addr} {y : V} {u : Value} {A : Around} {E : Value → Shared → Prop}
end
end L2
namespace L2
open PySem PySem.Spec PyProof.Rows
section
variable {X : Cx}
end
section
variable {κ : Type} [DecidableEq κ]
end
end L2
set_option maxHeartbeats 8000000
namespace L2
open PySem
def closC (env : Env) : List (Str × NameKind) → List (Str × Addr) → List (Str × Addr)
  | [], cs => cs
  | (n, k) :: r, cs => if (k == NameKind.free) = true then closC env r ((n, (env.cells.lookup n).getD 0) :: cs) else closC env r cs
theorem closC_forIn {env : Env} : ∀ (l : List (Str × NameKind)) (cs : List (Str × Addr)), (∀ x ∈ l, x.2 = NameKind.free → ∃ c, env.cells.lookup x.1 = some c) →
    forIn (m := Sem) l cs (fun x cs => match x with
      | (name, kind) => if (kind == NameKind.free) = true then do let a ← cellOf env name; pure (ForInStep.yield ((name, a) :: cs)) else pure (ForInStep.yield cs)) = pure (closC env l cs)
  | [], _, _ => rfl
  | (n, k) :: r, cs, h => by
    have hr : ∀ x ∈ r, x.2 = NameKind.free → ∃ c, env.cells.lookup x.1 = some c := fun x hx => h x (List.mem_cons_of_mem _ hx)
    rw [List.forIn_cons]
    dsimp only
    by_cases e : (k == NameKind.free) = true
    · obtain ⟨c, hc⟩ := h (n, k) List.mem_cons_self (by simpa using e)
      have hc' : env.cells.lookup n = some c := hc
      have ec : cellOf env n = pure c := by unfold cellOf; rw [hc']
      rw [if_pos e, ec, pure_bind, pure_bind]
      refine (closC_forIn r ((n, c) :: cs) hr).trans ?_
      conv => rhs; unfold closC
      rw [if_pos e, hc']
      rfl
    · rw [if_neg e, pure_bind]
      refine (closC_forIn r cs hr).trans ?_
      conv => rhs; unfold closC
      rw [if_neg e]
theorem closC_eq {scope : Scope} {env : Env} (h : ∀ x ∈ scope.names, x.2 = NameKind.free → ∃ c, env.cells.lookup x.1 = some c) : closureFor scope env = pure (closC env scope.names []) := by
  have e := closC_forIn scope.names [] h
  simp only [closureFor]
  rw [e]
  rfl
theorem closC_lookup {env : Env} : ∀ (l : List (Str × NameKind)) (cs : List (Str × Addr)), (∀ x ∈ l, x.2 = NameKind.free → ∃ c, env.cells.lookup x.1 = some c) → (∀ x c, cs.lookup x = some c → env.cells.lookup x = some c) →
    ∀ x c, (closC env l cs).lookup x = some c → env.cells.lookup x = some c
  | [], _, _, hc, x, c, e => hc x c e
  | (n, k) :: r, cs, h, hc, x, c, e => by
    have hr : ∀ x ∈ r, x.2 = NameKind.free → ∃ c, env.cells.lookup x.1 = some c := fun x hx => h x (List.mem_cons_of_mem _ hx)
    unfold closC at e
    by_cases q : (k == NameKind.free) = true
    · rw [if_pos q] at e
      obtain ⟨a, ha⟩ := h (n, k) List.mem_cons_self (by simpa using q)
      have ha' : env.cells.lookup n = some a := ha
      refine closC_lookup r _ hr (fun y b hy => ?_) x c e
      rw [ha'] at hy
      rw [List.lookup_cons] at hy
      cases z : y == n with
      | true =>
        rw [z] at hy
        have z' : y = n := by simpa using z
        subst z'
        cases hy
        exact ha'
      | false =>
        rw [z] at hy
        exact hc y b hy
    · rw [if_neg q] at e
      exact closC_lookup r _ hr hc x c e
theorem closC_mono {env : Env} : ∀ (l : List (Str × NameKind)) (cs : List (Str × Addr)) (x : Str), (cs.lookup x).isSome = true → ((closC env l cs).lookup x).isSome = true
  | [], _, _, h => h
  | (n, k) :: r, cs, x, h => by
    unfold closC
    by_cases q : (k == NameKind.free) = true
    · rw [if_pos q]
      refine closC_mono r _ x ?_
      rw [List.lookup_cons]
      cases x == n with
      | true => rfl
      | false => exact h
    · rw [if_neg q]
      exact closC_mono r cs x h
theorem closC_has {env : Env} : ∀ (l : List (Str × NameKind)) (cs : List (Str × Addr)) (x : Str), (x, NameKind.free) ∈ l → ((closC env l cs).lookup x).isSome = true
  | [], _, _, h => by cases h
  | (n, k) :: r, cs, x, h => by
    unfold closC
    rcases List.mem_cons.mp h with e | e
    · obtain ⟨rfl, rfl⟩ := Prod.mk.inj e
      rw [if_pos (by rfl)]
      refine closC_mono r _ _ ?_
      rw [List.lookup_cons]
      simp
    · split
      · exact closC_has r _ x e
      · exact closC_has r _ x e
section
variable {prog : Program} {w : World} {A : Around} {E : Value → Shared → Prop} {R : Result → Shared → Prop} {s : Shared}
theorem compLoop_any {elt target iter : Expr} {ifs : List Expr} {scope : Scope} {pos : Pos} {it acc : Value} {env : Env} (I : Nat → Shared → Prop)
    (turn : ∀ n s, I n s → wpAny (model prog w) A (pyNext it) (fun r s₁ => match r with
      | none => R (.ok .next) s₁
      | some v => wpAny (model prog w) A (letOwnedTupleGo target it v) (fun _ s₁' => wpAny (model prog w) A (assign target env v) (fun _ s₂ =>
          wpAny (model prog w) A (forIn ifs true fun c r => if r = true then do let ok ← isTrue c env (eval c env); pure (ForInStep.yield ok) else pure (ForInStep.yield r)) (fun ok s₃ =>
            if ok = true then wpAny (model prog w) A (eval elt env) (fun x s₄ =>
              wpAny (model prog w) A (call (.builtin "list.append") [acc, x]) (fun _ s₅ => ∃ m, m < n ∧ I m s₅) (fun _ _ => False) s₄) (fun _ _ => False) s₃
            else ∃ m, m < n ∧ I m s₃) (fun _ _ => False) s₂) (fun _ _ => False) s₁') (fun _ _ => False) s₁) (fun _ _ => False) s)
    (n : Nat) (h : I n s) :
    codeAny (model prog w) A (.compLoop (.ListComp elt [⟨target, iter, ifs, 0⟩] scope pos) 0 it acc env) R s := by
  refine codeAny_loop rfl I (fun n s hI => ?_) n h
  show wpAny _ A ((compTurn (.ListComp elt [⟨target, iter, ifs, 0⟩] scope pos) 0 it acc env).onRaise (fun x => do noteFrame x env; theTreesLotGoes x)) _ _ s
  refine wpAny_noted ?_
  rw [compTurn_list]
  refine wpAny_bind (wpAny_standAt (wpAny_bind (wpAny_mono (turn n s hI) (fun r s₁ h₁ => ?_) fun _ _ h' => h'.elim)))
  cases r with
  | none => exact wpAny_pure h₁
  | some v =>
    refine wpAny_bind (wpAny_mono h₁ (fun _ s₁' h₁' => ?_) fun _ _ h' => h'.elim)
    refine wpAny_bind (wpAny_mono h₁' (fun _ s₂ h₂ => wpAny_bind (wpAny_mono h₂ (fun ok s₃ h₃ => ?_) fun _ _ h' => h'.elim)) fun _ _ h' => h'.elim)
    cases ok with
    | false => exact wpAny_pure ⟨rfl, h₃⟩
    | true =>
      exact wpAny_bind (wpAny_bind (wpAny_mono h₃ (fun x s₄ h₄ => wpAny_bind (wpAny_mono h₄ (fun _ s₅ h₅ => wpAny_pure (wpAny_pure ⟨rfl, h₅⟩)) fun _ _ h' => h'.elim)) fun _ _ h' => h'.elim))
end
end L2
namespace L2
open PySem PySem.Spec PyProof.Rows
def cxC (X : Cx) (pins : List (Addr × Obj)) (N : List Str) (scope : Scope) (cl : List (Str × Addr)) (C : Addr) (s : Shared) (H : Hp) (fp : List Addr) : Cx where
  prog := X.prog
  w := X.w
  K := X.K
  mg := X.mg
  base := X.base
  A := X.A
  N := N
  s₀ := s
  H₀ := H
  env := compEnvC scope cl C X.env
  outer := X.stack
  stack := X.stack
  ex := fp
  fn := fun _ => false
  calm := X.calm
  pn := X.pn ++ pins
  xe := fun _ _ => False
def tieOk (XN N : List Str) (sc : List (Str × NameKind)) : Nat → List Nat → Bool
  | _, [] => true
  | j, i :: r => (match XN[i]?, N[j]? with
    | some x, some y => decide (x = y) && decide (sc.lookup x = some .free)
    | _, _ => false) && tieOk XN N sc (j + 1) r
theorem tie_get {XN N : List Str} {sc : List (Str × NameKind)} : ∀ {j0 : Nat} {fr : List Nat}, tieOk XN N sc j0 fr = true → ∀ {j i : Nat}, fr[j]? = some i → ∀ {x : Str}, N[j0 + j]? = some x → XN[i]? = some x ∧ sc.lookup x = some .free
  | _, [], _, j, i, e, _, _ => by simp at e
  | j0, i0 :: r, h, 0, i, e, x, hx => by
    have e' : i0 = i := by simpa using e
    subst e'
    unfold tieOk at h
    have hx' : N[j0]? = some x := by simpa using hx
    rw [hx'] at h
    cases q : XN[i0]? with
    | none => rw [q] at h; simp at h
    | some y =>
      rw [q] at h
      simp only [Bool.and_eq_true, decide_eq_true_eq] at h
      obtain ⟨⟨h1, h2⟩, _⟩ := h
      subst h1
      exact ⟨rfl, h2⟩
  | j0, i0 :: r, h, j + 1, i, e, x, hx => by
    unfold tieOk at h
    rw [Bool.and_eq_true] at h
    exact tie_get (j0 := j0 + 1) h.2 (j := j) (by simpa using e) (by rw [show j0 + 1 + j = j0 + (j + 1) by omega]; exact hx)
structure CompScope (X : Cx) (N : List Str) (nt : Nat) (fr : List Nat) (scope : Scope) : Prop where
  kind : scope.kind = .function
  cell : ∀ y ∈ scope.names, y.2 ≠ .cell
  names : ∀ y ∈ scope.names, y.2 = .local → scope.names.lookup y.1 = some .local
  free : ∀ y ∈ scope.names, y.2 = .free → X.env.kindOf y.1 = some .cell
  len : N.length = nt + fr.length
  tie : tieOk X.N N scope.names nt fr = true
def startC (nt : Nat) (fr : List Nat) (σ : St) : St := List.replicate nt none ++ fr.map fun i => (σ[i]?).join
theorem relabel_mem {scope : Scope} {env : Env} {x : Str} {k : NameKind} (hc : ∀ y ∈ scope.names, y.2 ≠ .cell) (h : (relabel scope env).names.lookup x = some k) (hk : k = .cell ∨ k = .free) : (x, NameKind.free) ∈ scope.names := by
  have hm := PySem.mem_of_lookup h
  unfold relabel at hm
  obtain ⟨⟨n, q⟩, hy, e⟩ := List.mem_map.mp hm
  dsimp only at e
  by_cases z : (q == NameKind.free && env.scope.kind == .function && env.kindOf n == some .cell) = true
  · rw [if_pos z] at e
    have hq : q = NameKind.free := by
      simp only [Bool.and_eq_true] at z
      simpa using z.1.1
    cases e
    subst hq
    exact hy
  · rw [if_neg z] at e
    cases e
    rcases hk with hk | hk
    · exact absurd hk (hc _ hy)
    · subst hk
      exact hy
section
variable {X : Cx} {pins : List (Addr × Obj)} {σ : St} {H : Hp} {s : Shared}
theorem lookup_relabel_free {scope : Scope} {env : Env} (hk : env.scope.kind = .function) : ∀ {names : List (Str × NameKind)} {x : Str}, names.lookup x = some .free → env.kindOf x = some .cell →
    (names.map fun (n, k) => if (k == NameKind.free && env.scope.kind == .function && env.kindOf n == some .cell) then (n, NameKind.cell) else (n, k)).lookup x = some .cell
  | [], _, h, _ => by simp at h
  | (n, k) :: r, x, h, hx => by
    have ih := @lookup_relabel_free scope env hk r x
    show List.lookup x ((if (k == NameKind.free && env.scope.kind == .function && env.kindOf n == some .cell) = true then (n, NameKind.cell) else (n, k)) :: _) = _
    cases hq : x == n with
    | true =>
      have e : x = n := by simpa using hq
      subst e
      simp only [List.lookup_cons, hq] at h
      cases h
      rw [if_pos (by rw [hk, hx]; rfl)]
      simp [List.lookup_cons]
    | false =>
      simp only [List.lookup_cons, hq] at h
      by_cases hc : (k == NameKind.free && env.scope.kind == .function && env.kindOf n == some .cell) = true
      · rw [if_pos hc]; simp only [List.lookup_cons, hq]; exact ih h hx
      · rw [if_neg hc]; simp only [List.lookup_cons, hq]; exact ih h hx
theorem Inv.block {N : List Str} {nt : Nat} {fr : List Nat} {scope : Scope} {fp : List Addr} {h1 : Heap} {C : Addr} {tk : Nat} {m : Str → Option Value} (I : Inv X pins σ H s) (S : CompScope X N nt fr scope) (hC : C = s.heap.objs.size) (hn : h1.Ns C m)
    (hk : ∀ b o, s.heap.get? b = some o → h1.get? b = some o) (hf : ∀ b ∈ fp, FpOk X pins H b) (ho : ∀ b ∈ fp, b < s.heap.objs.size) :
    Inv (cxC X pins N scope (closC X.env scope.names []) C s H fp) [] (startC nt fr σ) H { s with heap := h1, toks := tk } := by
  have hfree : ∀ x ∈ scope.names, x.2 = NameKind.free → ∃ c, X.env.cells.lookup x.1 = some c := fun x hx e => I.ok.has x.1 (.inl (S.free x hx e))
  have cls : ∀ x c, (closC X.env scope.names []).lookup x = some c → X.env.cells.lookup x = some c := closC_lookup scope.names [] hfree (fun x c e => by simp at e)
  have stk : ∀ b ∈ fp, b ∉ frs X.stack := fun b hb z => by
    obtain ⟨f0, f1, f2, _⟩ := hf b hb
    rcases List.mem_cons.mp (I.stkSub b z) with e | e
    · exact f1 e
    · exact f2 e
  refine ⟨⟨I.ok.mod, S.kind, I.ok.glob, I.ok.blt, by rw [hC]; exact Nat.le_refl _, fun x y c e1 e2 => I.ok.inj x y c (cls x c e1) (cls y c e2), fun x e => ?_, fun _ _ e => (by cases e), I.ok.hd, I.ok.frames, .inl rfl, fun b hb => ⟨?_, fun x c e => (hf b hb).2.2.2.2.1 x c (cls x c e)⟩,
      fun b o e => I.bs b o e, Nat.le_trans I.ok.bsz I.sz, fun b o e hb => ?_, stk, I.stack, I.stkFree⟩,
    rfl, I.bare, Un.kept hk, ⟨m, hn, fun j x v e1 e2 e3 => ?_⟩, fun x c e => ?_, ?_, fun x c e => I.freeC x c (cls x c e), fun p hp => ?_, I.hok.kept hk, ?_⟩
  · have hm : (x, NameKind.free) ∈ scope.names := by
      rcases e with e | e
      · exact relabel_mem S.cell e (.inl rfl)
      · exact relabel_mem S.cell e (.inr rfl)
    exact Option.isSome_iff_exists.mp (closC_has scope.names [] x hm)
  · intro z
    have := ho b hb
    rw [z] at this
    have e : (cxC X pins N scope (closC X.env scope.names []) C s H fp).env.locals = s.heap.objs.size := hC
    rw [e] at this
    exact Nat.lt_irrefl _ this
  · have hb' : b ∈ fp := hb
    rcases (hf b hb').2.2.2.1 with z | z
    · exact I.ok.noex b o e z
    · exact absurd (Nat.lt_of_lt_of_le (Heap.lt_size (I.ok.bs b o e).1) z) (Nat.lt_irrefl _)
  · have e1 : N[j]? = some x := e1
    by_cases hj : j < nt
    · unfold startC at e2
      rw [List.getElem?_append_left (by simpa using hj), List.getElem?_replicate, if_pos hj] at e2
      cases e2
    · obtain ⟨d, rfl⟩ : ∃ d, j = nt + d := ⟨j - nt, by omega⟩
      unfold startC at e2
      rw [List.getElem?_append_right (by simp), List.length_replicate, Nat.add_sub_cancel_left, List.getElem?_map] at e2
      cases q : fr[d]? with
      | none => rw [q] at e2; cases e2
      | some i =>
        rw [q] at e2
        have e2' : (σ[i]?).join = some v := Option.some.inj e2
        have e2'' : σ[i]? = some (some v) := by
          cases z : σ[i]? with
          | none => rw [z] at e2'; cases e2'
          | some o => rw [z] at e2'; rw [show o = some v from e2']
        obtain ⟨hx, hl⟩ := tie_get S.tie q e1
        have hkx : X.env.kindOf x = some .cell := S.free (x, .free) (PySem.mem_of_lookup hl) rfl
        obtain ⟨m', hn', hl'⟩ := I.loc
        obtain ⟨u, r, lk⟩ := hl' i x v hx e2'' (.inr (.inl hkx))
        refine ⟨u, r, .inr ⟨.inl ?_, ?_⟩⟩
        · exact lookup_relabel_free (scope := scope) I.ok.kind hl hkx
        · rcases lk with ⟨hk', _⟩ | ⟨_, c, hc, hcell⟩
          · rw [hkx] at hk'; cases hk'
          · obtain ⟨c', hc'⟩ := Option.isSome_iff_exists.mp (closC_has (env := X.env) scope.names [] x (PySem.mem_of_lookup hl))
            have := cls x c' hc'
            rw [hc] at this
            cases this
            obtain ⟨o, ho', hd⟩ := hcell
            exact ⟨c, hc', o, hk c o ho', hd⟩
  · obtain ⟨v, o, e', d⟩ := I.cell x c (cls x c e)
    exact ⟨v, o, hk c o e', d⟩
  · show H C = none
    rw [hC]
    exact I.hok.fresh (Nat.le_refl _)
  · have hp' : p ∈ X.pn ++ pins := by
      have z : p ∈ (X.pn ++ pins) ++ [] := hp
      rwa [List.append_nil] at z
    obtain ⟨e, n, ne, nf, d⟩ := I.pin p hp'
    refine ⟨hk _ _ e, n, ?_, fun z => ?_, d⟩
    · show p.1 ≠ C
      rw [hC]
      exact Nat.ne_of_lt (Heap.lt_size e)
    · rcases List.mem_cons.mp (I.stkSub p.1 z) with q | q
      · exact ne q
      · exact nf q
  · show (startC nt fr σ).length = N.length
    unfold startC
    rw [List.length_append, List.length_replicate, List.length_map, S.len]
theorem Inv.unblock {N : List Str} {scope : Scope} {cl : List (Str × Addr)} {fp : List Addr} {C : Addr} {s3 s' : Shared} {pins' : List (Addr × Obj)} {σ' : St} {H' : Hp} (I : Inv X pins σ H s3) (hf : ∀ b ∈ fp, FpOk X pins H b)
    (J : Inv (cxC X pins N scope cl C s3 H fp) pins' σ' H' s') : Inv X pins σ H' s' :=
  I.call' (ch := fp) J.os J.base J.hok J.bare fun b hb => ⟨(hf b hb).2.2.2.1, (hf b hb).2.1, (hf b hb).2.2.2.2.1, (hf b hb).2.2.2.2.2⟩
def PIfs (X : Cx) (ifs : List Expr) (t : TT) : Prop :=
  ∀ (pins : List (Addr × Obj)) (s : Shared) (σ : St) (H : Hp) (Q : Bool → Hp → Prop), Inv X pins σ H s → t σ H Q →
    wpAny (model X.prog X.w) X.A (forIn ifs true fun c r => if r = true then do let ok ← isTrue c X.env (eval c X.env); pure (ForInStep.yield ok) else pure (ForInStep.yield r)) (TP X pins σ Q) X.xe s
def tYes : TT := fun _ H Q => Q true H
theorem pif_nil {X : Cx} : PIfs X [] tYes := fun pins s σ H Q I h => wpAny_tests_nil ⟨H, I, h⟩
theorem pif_one {X : Cx} {c : Expr} {t : TT} (h : PT X c t) : PIfs X [c] t := fun pins s σ H Q I q => wpAny_tests_one (h pins s σ H Q I q)
def tComp (nt : Nat) (fr : List Nat) (wi : TI) (g : TG) (tt : TT) (te : TE) : TE := fun σ H Q => wi σ H fun J H1 => ∀ D, H1 D = none → ∃ W : Nat → Nat → St → Hp → Prop, (∃ m, W 0 m (startC nt fr σ) (upd H1 D (.lst []))) ∧
  ∀ i m σ' H', W i m σ' H' → (J.stop i H' ∧ Q (.ref D) H') ∨ (J.go i H' ∧ ∃ N : St → Hp → Prop, (∀ σ2 H2, N σ2 H2 → ∃ m', m' < m ∧ W (i + 1) m' σ2 H2) ∧
    ∀ x H2, J.yld i H' x H2 → g x σ' H2 fun σ2 H3 => tt σ2 H3 fun b H4 => if b = true then te σ2 H4 fun v H5 => ∃ ys, H5 D = some (.lst ys) ∧ ys.length < sizeLine ∧ N σ2 (upd H5 D (.lst (ys ++ [v]))) else N σ2 H4)
theorem comp_core2 {elt tg iter : Expr} {ifs : List Expr} {scope : Scope} {pos : Pos} {N : List Str} {nt : Nat} {fr : List Nat} {g : TG} {tt : TT} {te : TE} {use : Option (Value → Sem Unit)} {Qv : Value → Shared → Prop} {Q : VK}
    {J : It} {fp : List Addr} {it D : Addr} {tn : Nat → Heap → Prop} {W : Nat → Nat → St → Hp → Prop} {m0 : Nat} {h₁ : Heap} {mC : Str → Option Value} {tk : Nat}
    (I3 : Inv X pins σ H s) (hcalm : X.calm = true) (S : CompScope X N nt fr scope)
    (hb : ∀ pins' cl C s3 H3 fp, let Y := cxC X pins' N scope cl C s3 H3 fp; PG Y tg g ∧ PIfs Y ifs tt ∧ PE Y elt te)
    (T : Turn X.prog X.w X.K tg J fp it tn) (st2 : tn 0 s.heap) (f3 : ∀ b ∈ fp, FpOk X pins H b) (w0 : W 0 m0 (startC nt fr σ) H)
    (turn : ∀ i m σ' H', W i m σ' H' → (J.stop i H' ∧ Q (.ref D) H') ∨ (J.go i H' ∧ ∃ N : St → Hp → Prop, (∀ σ2 H2, N σ2 H2 → ∃ m', m' < m ∧ W (i + 1) m' σ2 H2) ∧
      ∀ x H2, J.yld i H' x H2 → g x σ' H2 fun σ2 H3 => tt σ2 H3 fun b H4 => if b = true then te σ2 H4 fun v H5 => ∃ ys, H5 D = some (.lst ys) ∧ ys.length < sizeLine ∧ N σ2 (upd H5 D (.lst (ys ++ [v]))) else N σ2 H4))
    (hns₁ : h₁.Ns s.heap.objs.size mC) (kept : ∀ b o, s.heap.get? b = some o → h₁.get? b = some o)
    (fin : ∀ D C s' H' m, Inv X pins σ H' s' → s'.heap.Ns C m → FpOk X pins H' C → Q (.ref D) H' → compPost (model X.prog X.w) X.A X.xe use Qv (.ref D) C (.ok .next) s') :
    codeAny (model X.prog X.w) X.A (.compStart (.ListComp elt [⟨tg, iter, ifs, 0⟩] scope pos) 0 (.ref it) (.ref D) (compEnvC scope (closC X.env scope.names []) s.heap.objs.size X.env))
      (compPost (model X.prog X.w) X.A X.xe use Qv (.ref D) s.heap.objs.size) { s with heap := h₁, toks := tk } := by
  have ofp : ∀ b ∈ fp, b < s.heap.objs.size := fun b hb => by
    obtain ⟨o, e, _⟩ := T.obj _ _ st2 b hb
    exact Heap.lt_size e
  have J4 := I3.block (N := N) (nt := nt) (fr := fr) (scope := scope) (fp := fp) (h1 := h₁) (C := s.heap.objs.size) (tk := tk) S rfl hns₁ kept f3 ofp
  generalize hY : cxC X pins N scope (closC X.env scope.names []) s.heap.objs.size s H fp = Y at J4
  have body := hb pins (closC X.env scope.names []) s.heap.objs.size s H fp
  rw [hY] at body
  obtain ⟨bg, bt, be⟩ := body
  have eP : Y.prog = X.prog := by rw [← hY]; rfl
  have eW : Y.w = X.w := by rw [← hY]; rfl
  have eK : Y.K = X.K := by rw [← hY]; rfl
  have eA : Y.A = X.A := by rw [← hY]; rfl
  have eC : Y.calm = true := by rw [← hY]; exact hcalm
  have eE : Y.env = compEnvC scope (closC X.env scope.names []) s.heap.objs.size X.env := by rw [← hY]; rfl
  have eX : Y.xe = fun _ _ => False := by rw [← hY]; rfl
  have eN : Y.ex = fp := by rw [← hY]; rfl
  have fY : ∀ {H' : Hp} {s' : Shared} {σ' : St}, Inv Y [] σ' H' s' → (∀ b ∈ fp, H' b = none) → ∀ b ∈ fp, FpOk Y [] H' b := fun {H' s' σ'} J' hn b hbf => by
    obtain ⟨e1, e2⟩ := J'.ok.exf b (by rw [eN]; exact hbf)
    refine ⟨hn b hbf, e1, J'.ok.exfs b (by rw [eN]; exact hbf), .inl (by rw [eN]; exact hbf), e2, fun p hp => ?_⟩
    have hp' : p ∈ X.pn ++ pins := by
      have z : p ∈ Y.pn ++ [] := hp
      rw [List.append_nil, ← hY] at z
      exact z
    exact (f3 b hbf).2.2.2.2.2 p hp'
  have st4 : tn 0 h₁ := T.keep _ _ _ st2 fun b hbf o e => kept b o e
  have fin' : ∀ {σ' : St} {H' : Hp} {s' : Shared}, Inv Y [] σ' H' s' → Q (.ref D) H' → compPost (model X.prog X.w) X.A X.xe use Qv (.ref D) s.heap.objs.size (.ok .next) s' := fun {σ' H' s'} J' q' => by
    obtain ⟨m', hn', _⟩ := J'.loc
    have e : Y.env.locals = s.heap.objs.size := by rw [eE]; rfl
    rw [e] at hn'
    have I' : Inv X pins σ H' s' := by
      rw [← hY] at J'
      exact I3.unblock f3 J'
    have hfree' : H' s.heap.objs.size = none := by
      have z := J'.free
      rw [e] at z
      exact z
    exact fin D s.heap.objs.size s' H' m' I' hn' (I3.fpOk (Nat.le_refl _) hfree') q'
  have loop : codeAny (model X.prog X.w) X.A (.compLoop (.ListComp elt [⟨tg, iter, ifs, 0⟩] scope pos) 0 (.ref it) (.ref D) (compEnvC scope (closC X.env scope.names []) s.heap.objs.size X.env))
      (compPost (model X.prog X.w) X.A X.xe use Qv (.ref D) s.heap.objs.size) { s with heap := h₁, toks := tk } := by
    refine compLoop_any (fun n s' => ∃ i σ' H', Inv Y [] σ' H' s' ∧ tn i s'.heap ∧ (∀ b ∈ fp, H' b = none) ∧ W i n σ' H') ?_ m0 ⟨0, _, _, J4, st4, fun b hbf => (f3 b hbf).1, w0⟩
    rintro n s5 ⟨i, σ5, H5, J5, st5, fr5, w5⟩
    rcases turn i n σ5 H5 w5 with ⟨stop, qn⟩ | ⟨go, Nn, hN, step⟩
    · rw [← eA]
      refine wpAny_mono (T.done Y eP eW eK eC i [] s5 σ5 H5 (fun _ _ => False) J5 (fY J5 fr5) st5 stop) (fun r s6 ⟨hr, J6⟩ => ?_) fun _ _ z => z
      subst hr
      rw [eA]
      exact fin' J6 qn
    · rw [← eA]
      refine wpAny_mono (T.item Y eP eW eK eC i [] s5 σ5 H5 (fun _ _ => False) J5 (fY J5 fr5) st5 go) (fun r s6 ⟨u, hr, h6⟩ => ?_) fun _ _ z => z
      subst hr
      refine wpAny_mono h6 (fun _ s7 ⟨x, H7, J7, r7, y7, st7, fr7⟩ => ?_) fun _ _ z => z
      have J7' := J7.pinned (fY J7 fr7) (T.obj _ _ st7)
      have a1 := bg _ s7 σ5 H7 x u _ J7' r7 (step x H7 y7)
      rw [eP, eW, eE, eX] at a1
      refine wpAny_mono a1 (fun _ s8 ⟨σ8, H8, J8, q8⟩ => ?_) fun _ _ z => z
      have a2 := bt _ s8 σ8 H8 _ J8 q8
      rw [eP, eW, eE, eX] at a2
      refine wpAny_mono a2 (fun ok s9 ⟨H9, J9, q9⟩ => ?_) fun _ _ z => z
      have again : ∀ {σa : St} {Ha : Hp} {sa : Shared}, Inv Y ([] ++ pinsAt fp s7.heap) σa Ha sa → Nn σa Ha → ∃ m, m < n ∧ ∃ i σ' H', Inv Y [] σ' H' sa ∧ tn i sa.heap ∧ (∀ b ∈ fp, H' b = none) ∧ W i m σ' H' := fun {σa Ha sa} Ja na => by
        obtain ⟨m', hm, wa⟩ := hN σa Ha na
        refine ⟨m', hm, i + 1, σa, Ha, Ja.unpinned, T.keep _ _ _ st7 fun b hbf o e => (Ja.pin (b, o) (List.mem_append_right _ (List.mem_append_right _ (mem_pinsAt hbf e)))).1, fun b hbf => ?_, wa⟩
        obtain ⟨o, e, d⟩ := T.obj _ _ st7 b hbf
        exact (Ja.pin (b, o) (List.mem_append_right _ (List.mem_append_right _ (mem_pinsAt hbf e)))).2.1
      cases ok with
      | false =>
        rw [if_neg Bool.false_ne_true] at q9 ⊢
        exact again J9 q9
      | true =>
        rw [if_pos rfl] at q9 ⊢
        have a3 := be _ s9 σ8 H9 _ J9 q9
        rw [eP, eW, eE, eX] at a3
        refine wpAny_mono a3 (fun v s10 ⟨y, H10, J10, r10, ys, hys, hl, q10⟩ => ?_) fun _ _ z => z
        have a4 := mt_append (X := Y) _ s10 σ8 H10 (.ref D) [y] (.ref D) [v] (fun _ Hq => Nn σ8 Hq) J10 rfl (.cons r10 .nil) ⟨D, ys, y, rfl, rfl, hys, hl, q10⟩
        rw [eP, eW, eX] at a4
        refine wpAny_mono a4 (fun _ s11 ⟨_, H11, J11, _, q11⟩ => ?_) fun _ _ z => z
        exact again J11 q11
  exact codeAny_compStart_list loop (T.self _ 0 _ _ _ st4 loop)
theorem comp_core {elt tg iter : Expr} {ifs : List Expr} {scope : Scope} {pos pos' : Pos} {N : List Str} {nt : Nat} {fr : List Nat} {wi : TI} {g : TG} {tt : TT} {te : TE} {use : Option (Value → Sem Unit)} {Qv : Value → Shared → Prop} {Q : VK}
    (I : Inv X pins σ H s) (hcalm : X.calm = true) (S : CompScope X N nt fr scope) (hi : PI X tg iter wi)
    (hb : ∀ pins' cl C s3 H3 fp, let Y := cxC X pins' N scope cl C s3 H3 fp; PG Y tg g ∧ PIfs Y ifs tt ∧ PE Y elt te)
    (q : tComp nt fr wi g tt te σ H Q)
    (fin : ∀ D C s' H' m, Inv X pins σ H' s' → s'.heap.Ns C m → FpOk X pins H' C → Q (.ref D) H' → compPost (model X.prog X.w) X.A X.xe use Qv (.ref D) C (.ok .next) s')
    (hs : ∀ x, foldedSetIterable iter X.env x = pure x := by intro _; rfl) :
    wpAny (model X.prog X.w) X.A (comprehension (.ListComp elt [⟨tg, iter, ifs, 0⟩] scope pos) scope X.env pos' (newList []) false (eval iter X.env) use) Qv X.xe s := by
  have hfree : ∀ x ∈ scope.names, x.2 = NameKind.free → ∃ c, X.env.cells.lookup x.1 = some c := fun x hx e => I.ok.has x.1 (.inl (S.free x hx e))
  refine wpAny_comprehension_free rfl hs (closC_eq hfree) S.kind S.names (thn (hi pins s σ H _ I q) fun v s1 h1 => thn h1 fun itv s2 h2 => ?_)
  obtain ⟨it, fp, tn, J, H2, rfl, I2, T, st2, f2, q2⟩ := h2
  refine wpAny_newObj_type (wpAny_newFunctionEnv S.cell (by intro y hy; simp at hy) (fun h₁ hns₁ hsb₁ => ?_) S.kind)
  dsimp only at hns₁ hsb₁ ⊢
  have I3 : Inv X pins σ (upd H2 s2.heap.objs.size (.lst [])) { s2 with heap := s2.heap.push { cls := .type "list", data := .seq ([] : List Value).toArray } } := I2.lnew (its := []) (ys := []) (t' := s2.toks) .nil (by simp)
  obtain ⟨W, ⟨m0, w0⟩, turn⟩ := q2 s2.heap.objs.size I2.fresh
  have ofp : ∀ b ∈ fp, b < s2.heap.objs.size := fun b hb => by
    obtain ⟨o, e, _⟩ := T.obj _ _ st2 b hb
    exact Heap.lt_size e
  have f3 : ∀ b ∈ fp, FpOk X pins (upd H2 s2.heap.objs.size (.lst [])) b := fun b hb => by
    obtain ⟨f0, fr'⟩ := f2 b hb
    exact ⟨by rw [upd_ne (Nat.ne_of_lt (ofp b hb))]; exact f0, fr'⟩
  exact comp_core2 (D := s2.heap.objs.size) (tn := tn) (W := W) (m0 := m0) (tk := s2.toks + ([] : List (Str × Value)).length) I3 hcalm S hb T (T.keep _ _ _ st2 fun b hbf o e => Heap.get?_push_of_some _ e) f3 w0 turn hns₁
    (fun b o e => hsb₁.extBut b o (Nat.ne_of_lt (Heap.lt_size e)) (Heap.get?_push_of_some _ e)) fin
end
end L2
namespace L2
open PySem PySem.Spec PyProof.Rows
section
variable {X : Cx}
theorem pe_comp {elt tg iter : Expr} {ifs : List Expr} {scope : Scope} {pos : Pos} {N : List Str} {nt : Nat} {fr : List Nat} {wi : TI} {g : TG} {tt : TT} {te : TE}
    (hcalm : X.calm = true) (S : CompScope X N nt fr scope) (hi : PI X tg iter wi)
    (hb : ∀ pins' cl C s3 H3 fp, let Y := cxC X pins' N scope cl C s3 H3 fp; PG Y tg g ∧ PIfs Y ifs tt ∧ PE Y elt te)
    (hs : ∀ x, foldedSetIterable iter X.env x = pure x := by intro _; rfl) :
    PE X (.ListComp elt [⟨tg, iter, ifs, 0⟩] scope pos) (tComp nt fr wi g tt te) := by
  intro pins s σ H Q I q
  rw [eval_ListComp]
  refine comp_core (use := none) (Qv := EP X pins σ Q) I hcalm S hi hb q (fun D C s' H' m J hn f q' => ?_) hs
  exact ⟨m, hn, fun h' hs' => ⟨.ref D, H', J.turned (t' := s'.toks) (fun b o hb e => (hs'.2 b hb).trans e) f.1 f.2.1 f.2.2.2.1 f.2.2.2.2.1 f.2.2.2.2.2, rfl, q'⟩⟩
theorem ps_setComp {i : Nat} {y : Str} {py spos : Pos} {elt tg iter : Expr} {ifs : List Expr} {scope : Scope} {pos : Pos} {N : List Str} {nt : Nat} {fr : List Nat} {wi : TI} {g : TG} {tt : TT} {te : TE}
    (hN : X.N.Nodup) (hj : X.N[i]? = some y) (hy : Loc X.env.scope y)
    (hcalm : X.calm = true) (S : CompScope X N nt fr scope) (hi : PI X tg iter wi)
    (hb : ∀ pins' cl C s3 H3 fp, let Y := cxC X pins' N scope cl C s3 H3 fp; PG Y tg g ∧ PIfs Y ifs tt ∧ PE Y elt te)
    (hsw : swapsWith (.ListComp elt [⟨tg, iter, ifs, 0⟩] scope pos) (some (.Name y py)) spos.line X.env = pure true := by rfl)
    (hs : ∀ x, foldedSetIterable iter X.env x = pure x := by intro _; rfl) (hf : X.fn y = true ∨ X.env.scope.names.lookup y = some .local := by first | exact .inl rfl | exact .inr rfl | assumption) :
    PS X (.Assign [.Name y py] (.ListComp elt [⟨tg, iter, ifs, 0⟩] scope pos) spos) (tAsg (tComp nt fr wi g tt te) (gName i)) := by
  intro pins s σ H D I q
  rw [exec_Assign_Name_used _ _ _ _ hsw]
  refine wpAny_bind (wpAny_standAt (wpAny_bind ?_))
  show wpAny _ _ (do let _ ← comprehension (.ListComp elt [⟨tg, iter, ifs, 0⟩] scope pos) scope X.env _ (newList []) false (eval iter X.env) (some (assign (.Name y py) X.env))) _ _ s
  refine wpAny_bind (wpAny_mono (comp_core (use := some (assign (.Name y py) X.env)) (Qv := fun _ s' => SP X pins D .next s') (Q := fun v H1 => gName i v σ H1 D.nx) I hcalm S hi hb q (fun D' C s' H' m J hn f q' => ?_) hs) (fun _ s' hq => wpAny_pure (wpAny_pure hq)) fun _ _ e => e)
  show wpAny _ _ (assign (.Name y py) X.env (.ref D')) _ _ _
  refine wpAny_assign_Name (store_ok2 J hN hj hy (v := .ref D') rfl (fun s'' J'' ⟨a, hsb, ha⟩ => ?_) hf)
  have hCa : C ≠ a := by
    rcases ha with ha | ha
    · rw [ha]; exact f.2.1
    · exact fun z => f.2.2.2.2.1 y a ha z.symm
  refine ⟨m, hn.sameBut hsb hCa, fun h' hs' => ⟨_, H', J''.turned (t' := s''.toks) (fun b o hb e => (hs'.2 b hb).trans e) f.1 f.2.1 f.2.2.2.1 f.2.2.2.2.1 f.2.2.2.2.2, q'⟩⟩
end
theorem same_new {H : Hp} {D : Addr} {o : HO} (h : H D = none) : Same H (upd H D o) := fun b u e => by rw [upd_ne (ne_of_none e h)]; exact e
theorem take_snoc {α : Type} {xs : List α} {i : Nat} {x : α} (h : xs[i]? = some x) : xs.take (i + 1) = xs.take i ++ [x] := by
  rw [List.take_add_one, h]; rfl
end L2
namespace L2
open PySem PySem.Spec PyProof.Rows
mutual
inductive DatA (K : PySem.W.Frag) (H : Hp) : V → PyData → Prop where
  | non : DatA K H .non .none
  | bl (b : Bool) : DatA K H (.bl b) (.bool b)
  | int (i : Int) : DatA K H (.int i) (.int i)
  | str (x : Str) : DatA K H (.str x) (.str x)
  | lst {a : Addr} {xs : List V} {ds : List PyData} : SqL K H a xs → DatAs K H xs ds → DatA K H (.ref a) (.list ds)
  | tup {a : Addr} {xs : List V} {ds : List PyData} : SqT K H a xs → DatAs K H xs ds → DatA K H (.ref a) (.tuple ds)
inductive DatAs (K : PySem.W.Frag) (H : Hp) : List V → List PyData → Prop where
  | nil : DatAs K H [] []
  | cons {x : V} {xs : List V} {d : PyData} {ds : List PyData} : DatA K H x d → DatAs K H xs ds → DatAs K H (x :: xs) (d :: ds)
end
mutual
theorem reads_of {X : Cx} {pins : List (Addr × Obj)} {σ : St} {H : Hp} {s : Shared} (I : Inv X pins σ H s) : ∀ {x : V} {d : PyData}, DatA X.K H x d → ∀ {u : Value}, RelV x u → ∃ as, Reads s.heap u d as
  | _, _, .non, _, r => by cases r; exact ⟨[], .none⟩
  | _, _, .bl b, _, r => by cases r; exact ⟨[], .bool b⟩
  | _, _, .int i, _, r => by obtain ⟨t, rfl⟩ := r; exact ⟨[], .int i t⟩
  | _, _, .str x, _, r => by obtain ⟨t, rfl⟩ := r; exact ⟨[], .str x t⟩
  | _, _, .lst h hs, _, r => by
    cases r
    obtain ⟨its, rv, ⟨o, n, e, c, _, d⟩, _⟩ := I.list h
    obtain ⟨as, ra⟩ := reads_all I hs rv
    exact ⟨_, .list e c d ra⟩
  | _, _, .tup h hs, _, r => by
    cases r
    obtain ⟨its, rv, ⟨o, e, c, n, d⟩, _⟩ := I.tuple h
    obtain ⟨as, ra⟩ := reads_all I hs rv
    exact ⟨_, .tuple e c d ra⟩
theorem reads_all {X : Cx} {pins : List (Addr × Obj)} {σ : St} {H : Hp} {s : Shared} (I : Inv X pins σ H s) : ∀ {xs : List V} {ds : List PyData}, DatAs X.K H xs ds → ∀ {us : List Value}, Vals xs us → ∃ as, ReadsAll s.heap us ds as
  | _, _, .nil, _, r => by cases r; exact ⟨[], .nil⟩
  | _, _, .cons h hs, _, r => by
    cases r with
    | cons r1 r2 =>
      obtain ⟨as, ra⟩ := reads_of I h r1
      obtain ⟨bs, rb⟩ := reads_all I hs r2
      exact ⟨_, .cons ra rb⟩
end
def rEqD (K : PySem.W.Frag) (neg : Bool) : R2 := fun x y H Q => ∃ da db, DatA K H x da ∧ DatA K H y db ∧ PySem.SeqAt.shaped da = true ∧ PySem.SeqAt.shaped db = true ∧ Q (.bl (if neg then !PyData.eqv da db else PyData.eqv da db)) H
theorem op_eqD {X : Cx} (hu : X.A.units + 64 < cLine) : OpR X (compareOp .Eq) (rEqD X.K false) := by
  intro pins s σ H x y v u Q I rx ry h
  obtain ⟨da, db, ha, hb, sa, sb, q⟩ := h
  obtain ⟨as, ra⟩ := reads_of I ha rx
  obtain ⟨bs, rb⟩ := reads_of I hb ry
  exact PySem.SeqAt.compareEq_shaped ra rb sa sb hu ⟨.bl _, H, I, rfl, q⟩
theorem op_neD {X : Cx} (hu : X.A.units + 64 < cLine) : OpR X (compareOp .NotEq) (rEqD X.K true) := by
  intro pins s σ H x y v u Q I rx ry h
  obtain ⟨da, db, ha, hb, sa, sb, q⟩ := h
  obtain ⟨as, ra⟩ := reads_of I ha rx
  obtain ⟨bs, rb⟩ := reads_of I hb ry
  exact PySem.SeqAt.compareNe_shaped ra rb sa sb hu ⟨.bl _, H, I, rfl, q⟩
end L2
namespace RC
open PySem
abbrev Deed := Int × Str × Int
abbrev W.take : Str := "take"
abbrev W.give : Str := "give"
abbrev W.fork : Str := "fork"
abbrev W.wait : Str := "wait"
def awakeL (l : List Deed) : List Int := 0 :: (l.filter fun o => decide (o.2.1 = W.fork)).map fun o => o.2.2
def goneL (l : List Deed) : List Int := (l.filter fun o => decide (o.2.1 = W.wait)).map fun o => o.2.2
def lockL (l : List Deed) (x : Int) : List Deed := l.filter fun o => decide (o.2.2 = x) && (decide (o.2.1 = W.take) || decide (o.2.1 = W.give))
def behind (l : List Deed) (d : Deed) : Option Str :=
  if ¬ d.1 ∈ awakeL l then some "asleep"
  else if d.1 ∈ goneL l then some "gone"
  else if d.2.1 = W.take ∧ ∃ o, (lockL l d.2.2).getLast? = some o ∧ o.2.1 = W.take then some "held"
  else if d.2.1 = W.give ∧ (lockL l d.2.2).getLast? ≠ some (d.1, W.take, d.2.2) then some "loose"
  else if d.2.1 = W.fork ∧ d.2.2 ∈ awakeL l then some "twice"
  else if d.2.1 = W.wait ∧ ¬ d.2.2 ∈ awakeL l then some "unborn"
  else if d.2.1 = W.wait ∧ d.2.2 = d.1 then some "self" else none
end RC
namespace RC
open PySem
abbrev W.read : Str := "read"
abbrev W.write : Str := "write"
section
variable {many : Int} {as ps : List Int} {hold : Int → Option Int} {ds : List Deed} {t x : Int} {w : Str}
end
end RC
namespace RC
open PySem L2
end RC
namespace L2
open PySem
def PuT (tt : TT) (σ : St) (H : Hp) (b : Bool) : Prop := ∀ Qt : Bool → Hp → Prop, Qt b H → tt σ H Qt
section
variable {tt tA tB' : TT} {σ : St} {H : Hp} {a b : Bool} {D : Ends} {v : V} {rest : TS}
theorem PuT.and (h1 : PuT tA σ H a) (h2 : a = true → PuT tB' σ H b) : PuT (tAnd tA tB') σ H (a && b) := fun Qt q => h1 _ (by
  cases a with
  | true => exact iteT (h2 rfl _ q)
  | false => exact iteF q)
theorem PuT.or (h1 : PuT tA σ H a) (h2 : a = false → PuT tB' σ H b) : PuT (tOr tA tB') σ H (a || b) := fun Qt q => h1 _ (by
  cases a with
  | true => exact iteT q
  | false => exact iteF (h2 rfl _ q))
theorem PuT.not (h1 : PuT tA σ H a) : PuT (tNot tA) σ H (!a) := fun Qt q => h1 _ q
theorem PuT.eq (h : PuT tt σ H a) (e : a = b) : PuT tt σ H b := e ▸ h
theorem PuT.iff (h : PuT tt σ H a) {c : Prop} [Decidable c] (e : a = true ↔ c) : PuT tt σ H (decide c) := by
  have : a = decide c := by rw [Bool.eq_iff_iff, decide_eq_true_iff]; exact e
  exact this ▸ h
theorem PuT.ret {c : Prop} [Decidable c] (h : PuT tt σ H (decide c)) (h1 : c → D.rt v H) (h2 : ¬ c → rest D σ H) : tSeq (tIfS tt (tRet (tC v)) tNext) rest D σ H := h _ (by
  by_cases z : c
  · rw [decide_eq_true z]; exact iteT (h1 z)
  · rw [decide_eq_false z]; exact iteF (h2 z))
theorem PuT.ifs {c : Prop} [Decidable c] {body : TS} (h : PuT tt σ H (decide c)) (h1 : c → body { D with nx := rest D } σ H) (h2 : ¬ c → rest D σ H) : tSeq (tIfS tt body tNext) rest D σ H := h _ (by
  by_cases z : c
  · rw [decide_eq_true z]; exact iteT (h1 z)
  · rw [decide_eq_false z]; exact iteF (h2 z))
theorem PuT.if1 {c : Prop} [Decidable c] {body els : TS} (h : PuT tt σ H (decide c)) (h1 : c → body D σ H) (h2 : ¬ c → els D σ H) : tIfS tt body els D σ H := h _ (by
  by_cases z : c
  · rw [decide_eq_true z]; exact iteT (h1 z)
  · rw [decide_eq_false z]; exact iteF (h2 z))
theorem dec_str' {x y : Str} : decide (V.str x = V.str y) = decide (x = y) := by rw [Bool.eq_iff_iff]; simp
theorem dec_int' {x y : Int} : decide (V.int x = V.int y) = decide (x = y) := by rw [Bool.eq_iff_iff]; simp
end
end L2
namespace K
open PySem L2 RC
def top (i : Nat) : Stmt := PySem.Challenge.pw_racewise_k24_moves_refused.main.body.getD i (.Pass ⟨0, 0, 0, 0⟩)
abbrev s_limits_of : Stmt := top 19
abbrev s_is_value : Stmt := top 20
abbrev s_is_part : Stmt := top 21
abbrev s_is_line : Stmt := top 22
abbrev s_Program___init__ : Stmt := inClass (top 23) 0
abbrev s_Program_first_values : Stmt := inClass (top 23) 1
abbrev s_Program_code : Stmt := inClass (top 23) 2
abbrev s_Program_line : Stmt := inClass (top 23) 3
abbrev s_begin : Stmt := top 25
abbrev s_ended : Stmt := top 26
abbrev s_next_line : Stmt := top 27
abbrev s_lets : Stmt := top 28
abbrev s_may_move : Stmt := top 29
abbrev s_put : Stmt := top 30
abbrev s_value_of : Stmt := top 31
abbrev s_is_so : Stmt := top 32
abbrev s_reckoned : Stmt := top 33
abbrev s_number_behind : Stmt := top 34
abbrev s_own_behind : Stmt := top 35
abbrev s_values_behind : Stmt := top 36
abbrev s_holders_behind : Stmt := top 37
abbrev s_awake_behind : Stmt := top 38
abbrev s_moved : Stmt := top 39
abbrev s_deed_of : Stmt := top 40
abbrev s_run : Stmt := top 41
abbrev sCell : Stmt := top 43
abbrev s__law_value : Stmt := top 44
abbrev s__law_line : Stmt := top 45
abbrev s__law_codes : Stmt := top 46
abbrev s__law_firsts : Stmt := top 47
abbrev s__law_may : Stmt := top 48
abbrev s__law_asked : Stmt := top 49
abbrev sRef : Stmt := top 50
abbrev s__law_wrong : Stmt := top 51
abbrev sLaw : Stmt := top 52
end K
namespace L2
open PySem PySem.Spec PyProof.Rows
structure ZA (z TI TO i1 i2 : Addr) : Prop where
  TIz : TI ≠ z
  TOz : TO ≠ z
  i1z : i1 ≠ z
  i2z : i2 ≠ z
  TITO : TI ≠ TO
  TIi1 : TI ≠ i1
  TIi2 : TI ≠ i2
  TOi1 : TO ≠ i1
  TOi2 : TO ≠ i2
  i12 : i1 ≠ i2
theorem ne_add {n i j : Nat} (h : i ≠ j) : n + i ≠ n + j := fun e => h (Nat.add_left_cancel e)
theorem za_of (n : Nat) : ZA (n + 4) (n + 2) (n + 3) n (n + 1) :=
  ⟨ne_add (by decide), ne_add (by decide), ne_add (i := 0) (by decide), ne_add (by decide), ne_add (by decide), ne_add (j := 0) (by decide), ne_add (by decide), ne_add (j := 0) (by decide), ne_add (by decide), ne_add (i := 0) (by decide)⟩
theorem boot_zip : bootBuiltins "zip" = some (.type "zip") := by decide +kernel
theorem boot_all : bootBuiltins "all" = some (.builtin "all") := by decide +kernel
theorem call_all {X : Cx} (hc : X.calm = true) : CallR X (.builtin "all") (fun xs H Q => ∃ (p : Addr) (bs : List Bool), xs = [.ref p] ∧ SqL X.K H p (bs.map V.bl) ∧ Q (.bl (bs.all id)) H) := by
  intro pins s σ H xs us Q I r h
  obtain ⟨p, bs, rfl, hq, q⟩ := h
  obtain ⟨u, rfl, rx⟩ := vals1 r
  cases rx
  obtain ⟨its, rv, pl, hz⟩ := I.list hq
  have hh : X.A.in1.handled = none := I.ok.hd hc
  have hlen : its.length = bs.length := by rw [← rv.length, List.length_map]
  refine call_all_walk (wpAny_pyIter_list pl.isList ?_)
  have hk : ∀ b o, s.heap.get? b = some o → (s.heap.push { cls := .type "list_iterator", data := .fields #[.ref p, .int 0 0] }).get? b = some o := fun b o e => Heap.get?_push_of_some _ e
  have plt : p < s.heap.objs.size := by obtain ⟨o, e, _⟩ := pl.isList; exact Heap.lt_size e
  refine ⟨s.heap.objs.size, _, [s.heap.objs.size], its.toArray.size, _, _, fun i => bs.getD i false, rfl, Walks.list hh s.heap.objs.size p (Nat.ne_of_lt plt) its.toArray, ⟨⟨_, Heap.get?_push_size _ rfl, rfl, rfl⟩, pl.isList.at fun o e => hk p o e⟩, ?_, fun h' tk hk' => ?_⟩
  · intro i v s' Q' E' hv hQ
    have hi : its[i]? = some v := by simpa using hv
    have hil : i < its.length := (List.getElem?_eq_some_iff.mp hi).1
    obtain ⟨b, hb⟩ : ∃ b, bs[i]? = some b := ⟨bs[i]'(by omega), by simp [show i < bs.length by omega]⟩
    obtain ⟨u, hu, ru⟩ := rv.get (i := i) (x := V.bl b) (by rw [List.getElem?_map, hb]; rfl)
    rw [hi] at hu
    cases hu
    cases ru
    have e : bs.getD i false = b := by rw [List.getD_eq_getElem?_getD, hb]; rfl
    have hQ' : Q' (bs.getD i false) s' := hQ
    rw [e] at hQ'
    exact wpAny_truthy_bool hQ'
  · have e : (List.range its.toArray.size).all (fun i => bs.getD i false) = bs.all id := by
      rw [show its.toArray.size = bs.length by simpa using hlen]
      rw [Bool.eq_iff_iff, List.all_eq_true, List.all_eq_true]
      constructor
      · intro h x hx
        obtain ⟨i, hi, rfl⟩ := List.getElem_of_mem hx
        have := h i (by simpa using hi)
        rw [List.getD_eq_getElem?_getD] at this
        simpa [hi] using this
      · intro h i hi
        have hi' : i < bs.length := by simpa using hi
        rw [List.getD_eq_getElem?_getD]
        simpa [hi'] using h bs[i] (List.getElem_mem hi')
    rw [e]
    exact ⟨.bl _, H, I.kept (t' := tk) (fun b o e' => hk' b o (by simpa using Nat.ne_of_lt (Heap.lt_size e')) (hk b o e')), rfl, q⟩
end L2
namespace L2
open PySem PySem.Spec PyProof.Rows
end L2
namespace L2
open PySem PySem.Spec PyProof.Rows
end L2
namespace L2
open PySem PySem.Spec PyProof.Rows
end L2
namespace L2
open PySem PySem.Spec PyProof.Rows
end L2
namespace L2
open PySem
def PuS (tt : TT) (σ : St) (H : Hp) (b : Bool) : Prop := ∀ Qt : Bool → Hp → Prop, (∀ H', Same H H' → Qt b H') → tt σ H Qt
section
variable {tt tA tB' : TT} {σ : St} {H : Hp} {a b : Bool} {D : Ends} {v : V} {rest : TS}
theorem PuT.pus (h : PuT tt σ H b) : PuS tt σ H b := fun Qt q => h Qt (q H (Same.refl H))
theorem PuS.or (h1 : PuS tA σ H a) (h2 : a = false → ∀ H', Same H H' → PuS tB' σ H' b) : PuS (tOr tA tB') σ H (a || b) := fun Qt q => h1 _ fun H' s => (by
  cases a with
  | true => exact iteT (q H' s)
  | false => exact iteF (h2 rfl H' s _ fun H'' s' => q H'' (s.trans s')))
theorem PuS.not (h1 : PuS tA σ H a) : PuS (tNot tA) σ H (!a) := fun Qt q => h1 _ q
theorem PuS.iff (h : PuS tt σ H a) {c : Prop} [Decidable c] (e : a = true ↔ c) : PuS tt σ H (decide c) := by
  have : a = decide c := by rw [Bool.eq_iff_iff, decide_eq_true_iff]; exact e
  exact this ▸ h
theorem PuS.ifs {c : Prop} [Decidable c] {body : TS} (h : PuS tt σ H (decide c)) (h1 : ∀ H', Same H H' → c → body { D with nx := rest D } σ H') (h2 : ∀ H', Same H H' → ¬ c → rest D σ H') : tSeq (tIfS tt body tNext) rest D σ H := h _ fun H' s => (by
  by_cases z : c
  · rw [decide_eq_true z]; exact iteT (h1 H' s z)
  · rw [decide_eq_false z]; exact iteF (h2 H' s z))
theorem PuS.if1 {c : Prop} [Decidable c] {body els : TS} (h : PuS tt σ H (decide c)) (h1 : ∀ H', Same H H' → c → body D σ H') (h2 : ∀ H', Same H H' → ¬ c → els D σ H') : tIfS tt body els D σ H := h _ fun H' s => (by
  by_cases z : c
  · rw [decide_eq_true z]; exact iteT (h1 H' s z)
  · rw [decide_eq_false z]; exact iteF (h2 H' s z))
end
theorem CompScope.of {X : Cx} {N : List Str} {nt : Nat} {fr : List Nat} {scope osc : Scope} {XN : List Str} (eN : X.N = XN) (eO : X.env.scope = osc) (k : scope.kind = .function) (c : ∀ y ∈ scope.names, y.2 ≠ .cell) (n : ∀ y ∈ scope.names, y.2 = .local → scope.names.lookup y.1 = some .local)
    (f : ∀ y ∈ scope.names, y.2 = .free → osc.names.lookup y.1 = some .cell) (l : N.length = nt + fr.length) (t : tieOk XN N scope.names nt fr = true) : CompScope X N nt fr scope :=
  ⟨k, c, n, fun y hy e => by show X.env.scope.names.lookup y.1 = _; rw [eO]; exact f y hy e, l, by rw [eN]; exact t⟩
end L2
namespace RC
open PySem L2
def TSame (H H' : Hp) : Prop := ∀ b ys, H b = some (.tup ys) → H' b = some (.tup ys)
theorem datas_ints {K : PySem.W.Frag} {H : Hp} : ∀ ns : List Int, DatAs K H (ns.map V.int) (ns.map PyData.int)
  | [] => .nil
  | n :: r => .cons (.int n) (datas_ints r)
theorem lay_ints : ∀ ns : List Int, PyData.canLayAll0 (ns.map PyData.int) = true
  | [] => by simp [PyData.canLayAll0]
  | n :: r => by
    rw [List.map_cons, PyData.canLayAll0, lay_ints r]
    simp [PyData.canLay0]
theorem depth_ints : ∀ ns : List Int, PyData.depthAll (ns.map PyData.int) = 0
  | [] => by simp [PyData.depthAll]
  | n :: r => by
    rw [List.map_cons, PyData.depthAll, depth_ints r]
    simp [PyData.depth]
theorem shaped_ints (ns : List Int) : PySem.SeqAt.shaped (.list (ns.map PyData.int)) = true := by
  unfold PySem.SeqAt.shaped
  rw [PyData.canLay0, lay_ints, PyData.depth, depth_ints]
  rfl
theorem eqv_nil (ds : List PyData) : PyData.eqv (.list ds) (.list []) = ds.isEmpty := by
  rw [PyData.eqv]
  cases ds with
  | nil => simp [PyData.eqvAll]
  | cons d r => simp [PyData.eqvAll]
theorem pus_neNil {K : PySem.W.Frag} {σ : St} {H : Hp} {k : Nat} {a : Addr} {ns : List Int} (e : σ[k]? = some (some (.ref a))) (h : SqL K H a (ns.map V.int)) : PuS (tTest (tOp (rEqD K true) (tVar k) (tLst tNil))) σ H (decide (ns ≠ [])) := fun Qt q =>
  ⟨_, e, Nat.zero_le _, fun p hp => ⟨_, _, .lst ((same_new hp).seq h) (datas_ints ns), .lst (SqL.of upd_same) (datas_ints []), shaped_ints ns, shaped_ints [], _, rfl, by
    have z : (if true = true then !PyData.eqv (.list (ns.map PyData.int)) (.list (([] : List Int).map PyData.int)) else PyData.eqv (.list (ns.map PyData.int)) (.list (([] : List Int).map PyData.int))) = decide (ns ≠ []) := by
      rw [if_pos rfl, List.map_nil, eqv_nil]
      cases ns with
      | nil => rfl
      | cons n r => rfl
    rw [z]
    exact q _ (same_new hp)⟩⟩
end RC
namespace RC
open PySem L2
theorem cutV_take (xs : List V) (k : Nat) : cutV xs none (some (k : Int)) = xs.take k := by
  unfold cutV
  rw [HT.sIx_none, HT.sIx_nat, Nat.sub_zero, List.drop_zero]
  by_cases h : k ≤ xs.length
  · rw [Nat.min_eq_left h]
  · rw [Nat.min_eq_right (by omega), List.take_length, List.take_of_length_le (by omega)]
theorem cutV_drop (xs : List V) (k : Nat) : cutV xs (some (k : Int)) none = xs.drop k := by
  unfold cutV
  rw [HT.sIx_none, HT.sIx_nat]
  by_cases h : k ≤ xs.length
  · rw [Nat.min_eq_left h, List.take_of_length_le (by rw [List.length_drop]; omega)]
  · rw [Nat.min_eq_right (by omega), List.drop_of_length_le (Nat.le_refl _), List.drop_of_length_le (by omega)]
    simp
end RC
namespace L2
open PySem
end L2
namespace RC
open PySem L2
theorem cut_upto (ns : List Int) (a b : Nat) (h : a ≤ b) : ∃ ms : List Int, cutV (ns.map V.int) (some (a : Int)) (some (b : Int)) = ms.map V.int ∧ ms.length ≤ b - a := by
  unfold cutV
  rw [HT.sIx_nat, HT.sIx_nat]
  refine ⟨(ns.drop (min a (ns.map V.int).length)).take (min b (ns.map V.int).length - min a (ns.map V.int).length), ?_, ?_⟩
  · rw [List.map_take, List.map_drop]
  · rw [List.length_take, List.length_drop, List.length_map]
    omega
def spLaw (K : PySem.W.Frag) : Sp := fun vs H Q _ => ∃ (a : Addr) (ns : List Int), vs = [.ref a] ∧ SqL K H a (ns.map V.int) ∧ ns.length ≤ 63 ∧ ∀ H', Q (.bl true) H'
end RC
namespace L2
open PySem
abbrev frV (fr : List Nat) (σ : St) : St := fr.map fun i => (σ[i]?).join
theorem comp_by {J : It} {nt : Nat} {fr : List Nat} {g : TG} {tt : TT} {te : TE} {σ : St} {H1 : Hp} {Q : VK} {D : Addr} (n : Nat) (Pv : Nat → List V → Hp → Prop) (hn : n < sizeLine) (h0 : Pv 0 [] (upd H1 D (.lst [])))
    (go : ∀ i ys H', i < n → Pv i ys H' → J.go i H') (stop : ∀ ys H', Pv n ys H' → J.stop n H')
    (step : ∀ i ys H' (o : St) (N : St → Hp → Prop), i < n → o.length = nt → Pv i ys H' → H' D = some (.lst ys) → ys.length < sizeLine →
      (∀ (o2 : St) v H5, o2.length = nt → Pv (i + 1) (ys ++ [v]) (upd H5 D (.lst (ys ++ [v]))) → N (o2 ++ frV fr σ) (upd H5 D (.lst (ys ++ [v])))) → (∀ (o2 : St) H5, o2.length = nt → H5 D = some (.lst ys) → Pv (i + 1) ys H5 → N (o2 ++ frV fr σ) H5) →
      ∀ x H2, J.yld i H' x H2 → g x (o ++ frV fr σ) H2 fun σ2 H3 => tt σ2 H3 fun b H4 => if b = true then te σ2 H4 fun v H5 => ∃ ys, H5 D = some (.lst ys) ∧ ys.length < sizeLine ∧ N σ2 (upd H5 D (.lst (ys ++ [v]))) else N σ2 H4)
    (fin : ∀ ys H', Pv n ys H' → H' D = some (.lst ys) → Q (.ref D) H') :
    ∃ W : Nat → Nat → St → Hp → Prop, (∃ m, W 0 m (startC nt fr σ) (upd H1 D (.lst []))) ∧
      ∀ i m σ' H', W i m σ' H' → (J.stop i H' ∧ Q (.ref D) H') ∨ (J.go i H' ∧ ∃ N : St → Hp → Prop, (∀ σ2 H2, N σ2 H2 → ∃ m', m' < m ∧ W (i + 1) m' σ2 H2) ∧
        ∀ x H2, J.yld i H' x H2 → g x σ' H2 fun σ2 H3 => tt σ2 H3 fun b H4 => if b = true then te σ2 H4 fun v H5 => ∃ ys, H5 D = some (.lst ys) ∧ ys.length < sizeLine ∧ N σ2 (upd H5 D (.lst (ys ++ [v]))) else N σ2 H4) := by
  refine ⟨fun i m σ' H' => m = n - i ∧ i ≤ n ∧ (∃ o : St, o.length = nt ∧ σ' = o ++ frV fr σ) ∧ ∃ ys : List V, H' D = some (.lst ys) ∧ ys.length ≤ i ∧ Pv i ys H', ⟨n, by simp, Nat.zero_le _, ⟨List.replicate nt none, by simp, rfl⟩, [], upd_same, Nat.le_refl _, h0⟩, ?_⟩
  rintro i m σ' H' ⟨rfl, hi, ⟨o, ho, rfl⟩, ys, hD, hl, hP⟩
  by_cases hlt : i < n
  · refine .inr ⟨go i ys H' hlt hP, fun σ2 H2 => (∃ o : St, o.length = nt ∧ σ2 = o ++ frV fr σ) ∧ ∃ ys : List V, H2 D = some (.lst ys) ∧ ys.length ≤ i + 1 ∧ Pv (i + 1) ys H2, fun σ2 H2 ⟨h1, h2⟩ => ⟨n - (i + 1), by omega, rfl, hlt, h1, h2⟩, fun x H2 y => ?_⟩
    refine step i ys H' o _ hlt ho hP hD (by omega) (fun o2 v H5 h2 p => ⟨⟨o2, h2, rfl⟩, ys ++ [v], upd_same, ?_, p⟩) (fun o2 H5 h2 hd p => ⟨⟨o2, h2, rfl⟩, ys, hd, by omega, p⟩) x H2 y
    rw [List.length_append, List.length_singleton]
    omega
  · have e : i = n := by omega
    subst e
    exact .inl ⟨stop ys H' hP, fin ys H' hP hD⟩
theorem comp_range {n : Nat} {lo : Int} {fr : List Nat} {tt : TT} {te : TE} {σ : St} {H1 : Hp} {Q : VK} {D : Addr} (Pv : Nat → List V → Hp → Prop) (hn : n < sizeLine) (h0 : Pv 0 [] (upd H1 D (.lst [])))
    (step : ∀ i ys H' (N : St → Hp → Prop), i < n → Pv i ys H' → H' D = some (.lst ys) → ys.length < sizeLine →
      (∀ v H5, Pv (i + 1) (ys ++ [v]) (upd H5 D (.lst (ys ++ [v]))) → N (some (.int (lo + i)) :: frV fr σ) (upd H5 D (.lst (ys ++ [v])))) → (∀ H5, H5 D = some (.lst ys) → Pv (i + 1) ys H5 → N (some (.int (lo + i)) :: frV fr σ) H5) →
      tt (some (.int (lo + i)) :: frV fr σ) H' fun b H4 => if b = true then te (some (.int (lo + i)) :: frV fr σ) H4 fun v H5 => ∃ ys, H5 D = some (.lst ys) ∧ ys.length < sizeLine ∧ N (some (.int (lo + i)) :: frV fr σ) (upd H5 D (.lst (ys ++ [v]))) else N (some (.int (lo + i)) :: frV fr σ) H4)
    (fin : ∀ ys H', Pv n ys H' → H' D = some (.lst ys) → Q (.ref D) H') :
    ∃ W : Nat → Nat → St → Hp → Prop, (∃ m, W 0 m (startC 1 fr σ) (upd H1 D (.lst []))) ∧
      ∀ i m σ' H', W i m σ' H' → ((Itr lo n).stop i H' ∧ Q (.ref D) H') ∨ ((Itr lo n).go i H' ∧ ∃ N : St → Hp → Prop, (∀ σ2 H2, N σ2 H2 → ∃ m', m' < m ∧ W (i + 1) m' σ2 H2) ∧
        ∀ x H2, (Itr lo n).yld i H' x H2 → gName 0 x σ' H2 fun σ2 H3 => tt σ2 H3 fun b H4 => if b = true then te σ2 H4 fun v H5 => ∃ ys, H5 D = some (.lst ys) ∧ ys.length < sizeLine ∧ N σ2 (upd H5 D (.lst (ys ++ [v]))) else N σ2 H4) := by
  refine comp_by n Pv hn h0 (fun i ys H' hi _ => hi) (fun ys H' _ => Nat.le_refl _) (fun i ys H' o N hi ho hP hd hys kT kF x H2 y => ?_) fin
  obtain ⟨rfl, rfl⟩ := y
  match o, ho with
  | [o1], _ => exact step i ys _ N hi hP hd hys (fun v H5 p => kT [some (.int (lo + i))] v H5 rfl p) (fun H5 d p => kF [some (.int (lo + i))] H5 rfl d p)
theorem tComp_range {n : Nat} {fr : List Nat} {ta : TA} {tt : TT} {te : TE} {σ : St} {H : Hp} {Q : VK} (Pv : Addr → Nat → List V → Hp → Prop) (h : ∀ Q' : List V → Hp → Prop, Q' [.int (n : Int)] H → ta σ H Q') (hn : n ≤ 1000) (h0 : ∀ D, H D = none → Pv D 0 [] (upd H D (.lst [])))
    (step : ∀ D, H D = none → ∀ i ys H' (N : St → Hp → Prop), i < n → Pv D i ys H' → H' D = some (.lst ys) → ys.length < sizeLine →
      (∀ v H5, Pv D (i + 1) (ys ++ [v]) (upd H5 D (.lst (ys ++ [v]))) → N (some (.int (i : Int)) :: frV fr σ) (upd H5 D (.lst (ys ++ [v])))) → (∀ H5, H5 D = some (.lst ys) → Pv D (i + 1) ys H5 → N (some (.int (i : Int)) :: frV fr σ) H5) →
      tt (some (.int (i : Int)) :: frV fr σ) H' fun b H4 => if b = true then te (some (.int (i : Int)) :: frV fr σ) H4 fun v H5 => ∃ ys, H5 D = some (.lst ys) ∧ ys.length < sizeLine ∧ N (some (.int (i : Int)) :: frV fr σ) (upd H5 D (.lst (ys ++ [v]))) else N (some (.int (i : Int)) :: frV fr σ) H4)
    (fin : ∀ D, H D = none → ∀ ys H', Pv D n ys H' → H' D = some (.lst ys) → Q (.ref D) H') : tComp 1 fr (iRng1 ta) (gName 0) tt te σ H Q :=
  h _ ⟨(n : Int), rfl, by omega, by omega, fun D hD => comp_range (lo := 0) (n := n) (Pv D) (small1000 hn) (h0 D hD) (fun i ys H' N hi hP hd hys kT kF => by
    have e : (0 : Int) + (i : Int) = (i : Int) := by omega
    rw [e] at kT kF ⊢
    exact step D hD i ys H' N hi hP hd hys kT kF) (fin D hD)⟩
end L2
namespace RC
open PySem
def edge (a b : Deed) : Prop := a.1 = b.1 ∨ (a.2.1 = W.fork ∧ (b.1 = a.2.2 ∨ (b.2.1 = W.wait ∧ b.2.2 = a.2.2))) ∨ (b.2.1 = W.wait ∧ b.2.2 = a.1) ∨ (a.2.1 = W.give ∧ b.2.1 = W.take ∧ a.2.2 = b.2.2)
instance (a b : Deed) : Decidable (edge a b) := by unfold edge; infer_instance
def pre (D : Nat → Deed) (i : Nat) : List Deed := (List.range i).map D
section
variable {D : Nat → Deed} {n : Nat} {N : Nat → Int → Nat}
def cnt (p : Nat → Bool) : Nat → Nat
  | 0 => 0
  | k + 1 => cnt p k + (if p k = true then 1 else 0)
end
end RC
namespace RC
open PySem
structure CS where
  reached : Int → Int → Nat
  given : Int → Option (Int → Nat)
def cs0 : CS := ⟨fun _ _ => 0, fun _ => none⟩
def clk1 (s : CS) (d : Deed) : Int → Nat := if d.2.1 = W.take then (match s.given d.2.2 with | some g => fun u => max (s.reached d.1 u) (g u) | none => s.reached d.1) else s.reached d.1
def clk2 (s : CS) (d : Deed) : Int → Nat := if d.2.1 = W.wait then fun u => max (clk1 s d u) (s.reached d.2.2 u) else clk1 s d
def clk (s : CS) (d : Deed) : Int → Nat := fun u => if u = d.1 then clk2 s d u + 1 else clk2 s d u
def stepC (s : CS) (d : Deed) : CS :=
  ⟨fun t => if d.2.1 = W.fork ∧ t = d.2.2 then clk s d else if t = d.1 then clk s d else s.reached t, fun x => if d.2.1 = W.give ∧ x = d.2.2 then some (clk s d) else s.given x⟩
def csOf (ds : List Deed) : CS := ds.foldl stepC cs0
def NC (D : Nat → Deed) (k : Nat) : Int → Nat := clk (csOf (pre D k)) (D k)
section
variable {D : Nat → Deed} {n : Nat}
def I2 (D : Nat → Deed) (i : Nat) : Prop := ∀ t, (∃ L, L < i ∧ (D L).1 = t ∧ (∀ j, L < j → j < i → (D j).1 ≠ t) ∧ (csOf (pre D i)).reached t = NC D L) ∨
  ((∀ j, j < i → (D j).1 ≠ t) ∧ ((∃ f, f < i ∧ (D f).2.1 = W.fork ∧ (D f).2.2 = t ∧ (csOf (pre D i)).reached t = NC D f) ∨ ((∀ f, f < i → ¬ ((D f).2.1 = W.fork ∧ (D f).2.2 = t)) ∧ (csOf (pre D i)).reached t = fun _ => 0)))
def I3 (D : Nat → Deed) (i : Nat) : Prop := ∀ x, ((csOf (pre D i)).given x = none ∧ ∀ j, j < i → ¬ ((D j).2.1 = W.give ∧ (D j).2.2 = x)) ∨
  ∃ g, g < i ∧ (D g).2.1 = W.give ∧ (D g).2.2 = x ∧ (∀ j, g < j → j < i → ¬ ((D j).2.1 = W.give ∧ (D j).2.2 = x)) ∧ (csOf (pre D i)).given x = some (NC D g)
end
end RC
namespace RC
open PySem L2
end RC
namespace L2
open PySem
section
variable {tt : TT} {σ : St} {H : Hp} {D : Ends} {rest body els : TS}
theorem PuT.ifsJ {c : Prop} [Decidable c] (J : St → Hp → Prop) (h : PuT tt σ H (decide c)) (h1 : c → ∀ N : St → Hp → Prop, (∀ σ' H', J σ' H' → N σ' H') → body { D with nx := N } σ H) (h2 : ¬ c → J σ H) (hr : ∀ σ' H', J σ' H' → rest D σ' H') : tSeq (tIfS tt body tNext) rest D σ H :=
  h.ifs (fun z => h1 z _ hr) fun z => hr _ _ (h2 z)
end
end L2
namespace L2
open PySem
theorem setComp_range {n : Nat} {fr : List Nat} {ta : TA} {tt : TT} {te : TE} {σ : St} {H : Hp} {j : Nat} {rest : TS} {De : Ends} (Pv : Addr → Nat → List V → Hp → Prop) (h : ∀ Q' : List V → Hp → Prop, Q' [.int (n : Int)] H → ta σ H Q') (hn : n ≤ 1000) (h0 : ∀ D, H D = none → Pv D 0 [] (upd H D (.lst [])))
    (step : ∀ D, H D = none → ∀ i ys H' (N : St → Hp → Prop), i < n → Pv D i ys H' → H' D = some (.lst ys) → ys.length < sizeLine →
      (∀ v H5, Pv D (i + 1) (ys ++ [v]) (upd H5 D (.lst (ys ++ [v]))) → N (some (.int (i : Int)) :: frV fr σ) (upd H5 D (.lst (ys ++ [v])))) → (∀ H5, H5 D = some (.lst ys) → Pv D (i + 1) ys H5 → N (some (.int (i : Int)) :: frV fr σ) H5) →
      tt (some (.int (i : Int)) :: frV fr σ) H' fun b H4 => if b = true then te (some (.int (i : Int)) :: frV fr σ) H4 fun v H5 => ∃ ys, H5 D = some (.lst ys) ∧ ys.length < sizeLine ∧ N (some (.int (i : Int)) :: frV fr σ) (upd H5 D (.lst (ys ++ [v]))) else N (some (.int (i : Int)) :: frV fr σ) H4)
    (fin : ∀ D, H D = none → ∀ ys H', Pv D n ys H' → H' D = some (.lst ys) → rest De (σ.set j (some (.ref D))) H') : tSeq (tAsg (tComp 1 fr (iRng1 ta) (gName 0) tt te) (gName j)) rest De σ H := by
  show tComp 1 fr (iRng1 ta) (gName 0) tt te σ H fun x H1 => rest De (σ.set j (some x)) H1
  exact tComp_range (Q := fun x H1 => rest De (σ.set j (some x)) H1) Pv h hn h0 step fin
theorem Same.put2 {H0 H : Hp} {a : Addr} {o : HO} (s : Same H0 H) (h : H0 a = none) : Same H0 (upd H a o) := fun b u e => by rw [upd_ne (ne_of_none e h)]; exact s b u e
end L2
namespace L2
open PySem
theorem tComp_rangeF {n : Nat} {fr : List Nat} {ta : TA} {tt : TT} {te : TE} {σ : St} {H : Hp} {Q : VK} (p : Nat → Bool) (f : Nat → V) (h : ∀ Q' : List V → Hp → Prop, Q' [.int (n : Int)] H → ta σ H Q') (hn : n ≤ 1000)
    (ht : ∀ D, H D = none → ∀ i ys (Qt : Bool → Hp → Prop), i < n → Qt (p i) (upd H D (.lst ys)) → tt (some (.int (i : Int)) :: frV fr σ) (upd H D (.lst ys)) Qt)
    (he : ∀ D, H D = none → ∀ i ys (Qe : VK), i < n → p i = true → Qe (f i) (upd H D (.lst ys)) → te (some (.int (i : Int)) :: frV fr σ) (upd H D (.lst ys)) Qe)
    (fin : ∀ D, H D = none → Q (.ref D) (upd H D (.lst (((List.range n).filter p).map f)))) : tComp 1 fr (iRng1 ta) (gName 0) tt te σ H Q := by
  refine tComp_range (fun D i ys H' => ys = ((List.range i).filter p).map f ∧ H' = upd H D (.lst ys)) h hn (fun D hD => ⟨rfl, rfl⟩) (fun D hD i ys H' N hi ⟨ey, eH⟩ hd hys kT kF => ?_) (fun D hD ys H' ⟨ey, eH⟩ hd => ?_)
  · subst eH
    refine ht D hD i ys _ hi ?_
    cases hp : p i with
    | false =>
      refine iteF (kF _ upd_same ⟨?_, rfl⟩)
      rw [ey, List.range_succ, List.filter_append]
      simp [hp]
    | true =>
      refine iteT (he D hD i ys _ hi hp ⟨ys, upd_same, hys, kT (f i) _ ⟨?_, ?_⟩⟩)
      · rw [ey, List.range_succ, List.filter_append]
        simp [hp]
      · rw [upd_upd]
  · subst eH ey
    exact fin D hD
end L2
namespace L2
open PySem
def CompG (K : PySem.W.Frag) (nt : Nat) (fr : List Nat) (g : TG) (tt : TT) (te : TE) (σ : St) (H1 : Hp) (Q : VK) (a : Addr) : Prop :=
  ∀ D, H1 D = none → ∃ W : Nat → Nat → St → Hp → Prop, (∃ m, W 0 m (startC nt fr σ) (upd H1 D (.lst []))) ∧
      ∀ i m σ' H', W i m σ' H' → ((Itl K a).stop i H' ∧ Q (.ref D) H') ∨ ((Itl K a).go i H' ∧ ∃ N : St → Hp → Prop, (∀ σ2 H2, N σ2 H2 → ∃ m', m' < m ∧ W (i + 1) m' σ2 H2) ∧
        ∀ x H2, (Itl K a).yld i H' x H2 → g x σ' H2 fun σ2 H3 => tt σ2 H3 fun b H4 => if b = true then te σ2 H4 fun v H5 => ∃ ys, H5 D = some (.lst ys) ∧ ys.length < sizeLine ∧ N σ2 (upd H5 D (.lst (ys ++ [v]))) else N σ2 H4)
theorem tComp_iff {K : PySem.W.Frag} {nt : Nat} {fr : List Nat} {tl : TE} {g : TG} {tt : TT} {te : TE} {σ : St} {H : Hp} {Q : VK} :
    tComp nt fr (iList K tl) g tt te σ H Q = tl σ H (fun x H1 => ∃ a, x = .ref a ∧ (∃ xs, SqL K H1 a xs) ∧ CompG K nt fr g tt te σ H1 Q a) := rfl
theorem comp_listG {K : PySem.W.Frag} {nt : Nat} {fr : List Nat} {g : TG} {tt : TT} {te : TE} {σ : St} {H1 : Hp} {Q : VK} {a : Addr} {xs : List V} (Pv : Addr → Nat → List V → Hp → Prop) (hz : xs.length < sizeLine) (h0 : ∀ D, H1 D = none → Pv D 0 [] (upd H1 D (.lst [])))
    (hk : ∀ D i ys H', H1 D = none → Pv D i ys H' → SqL K H' a xs)
    (step : ∀ D i x ys H' (o : St) (N : St → Hp → Prop), H1 D = none → xs[i]? = some x → o.length = nt → Pv D i ys H' → H' D = some (.lst ys) → ys.length < sizeLine →
      (∀ (o2 : St) v H5, o2.length = nt → Pv D (i + 1) (ys ++ [v]) (upd H5 D (.lst (ys ++ [v]))) → N (o2 ++ frV fr σ) (upd H5 D (.lst (ys ++ [v])))) → (∀ (o2 : St) H5, o2.length = nt → H5 D = some (.lst ys) → Pv D (i + 1) ys H5 → N (o2 ++ frV fr σ) H5) →
      g x (o ++ frV fr σ) H' fun σ2 H3 => tt σ2 H3 fun b H4 => if b = true then te σ2 H4 fun v H5 => ∃ ys, H5 D = some (.lst ys) ∧ ys.length < sizeLine ∧ N σ2 (upd H5 D (.lst (ys ++ [v]))) else N σ2 H4)
    (fin : ∀ D ys H', H1 D = none → Pv D xs.length ys H' → H' D = some (.lst ys) → Q (.ref D) H') : CompG K nt fr g tt te σ H1 Q a := fun D hD =>
  comp_by (J := Itl K a) xs.length (Pv D) hz (h0 D hD) (fun i ys H' hi hP => ⟨xs, xs[i], hk D i ys H' hD hP, by simp [hi]⟩) (fun ys H' hP => ⟨xs, hk D _ ys H' hD hP, Nat.le_refl _⟩)
    (fun i ys H' o N hi ho hP hd hys kT kF x H2 y => by
      obtain ⟨e, y⟩ := y
      subst e
      exact step D i x ys H2 o N hD (y xs (hk D i ys H2 hD hP)) ho hP hd hys kT kF) (fun ys H' => fin D ys H' hD)
end L2
namespace L2
open PySem RC
end L2
namespace L2
open PySem PySem.Spec PyProof.Rows
end L2
namespace L2
open PySem RC
end L2
namespace L2
open PySem PySem.Spec PyProof.Rows
end L2
namespace L2
open PySem RC
end L2
namespace L2
open PySem PySem.Spec PyProof.Rows
section
variable {X : Cx} {pins : List (Addr × Obj)} {σ : St} {H : Hp} {s : Shared}
end
end L2
namespace L2
open PySem PySem.Spec PyProof.Rows
section
variable {X : Cx}
end
end L2
namespace L2
open PySem PySem.Spec PyProof.Rows
section
variable {prog : Program} {w : World} {A : Around} {E : Value → Shared → Prop} {s : Shared}
theorem nextT_item {g t : Addr} {j : Nat} {its : Array Value} {x : Value} {Q : Value → Shared → Prop} (a1 : s.heap.IsTupleIter g t j) (a2 : s.heap.IsTuple t its) (a3 : its[j]? = some x)
    (k : ∀ h', h'.IsTupleIter g t (j + 1) → Heap.SameBut g s.heap h' → Q x { s with heap := h' }) : wpAny (model prog w) A (Builtin.SmallTypes.nextOf (.ref g)) Q E s := by
  obtain ⟨o, e1, e2, e3⟩ := id a1; obtain ⟨ot, f1, _, n, f3⟩ := a2
  unfold Builtin.SmallTypes.nextOf
  refine wpAny_bind (wpAny_callSpecial?_slot (name := Str.ofString "__next__") a1.typeIs F.slot_tuple_iterator_next (wpAny_call_entry F.slot_tuple_iterator_next a1.typeIs F.entry_tuple_iterator_next ?_ (F.args_tuple_iterator_next_1 _)))
  show wpAny _ _ (field (.ref g) 0 >>= _) _ _ s; refine wpAny_bind (wpAny_field e1 e3 (x := .ref t) rfl ?_)
  show wpAny _ _ (if (Value.ref t == Value.none) = true then _ else _) _ _ s; rw [if_neg (show ¬ ((Value.ref t == Value.none) = true) from Bool.false_ne_true)]
  show wpAny _ _ (field (.ref g) 1 >>= _) _ _ s; refine wpAny_bind (wpAny_field e1 e3 (x := .int j 0) rfl ?_)
  show wpAny _ _ (seqItems? (.ref t) >>= _) _ _ s; refine wpAny_bind (wpAny_seqItems f1 f3 ?_)
  simp only [Int.toNat_natCast, a3]; refine wpAny_bind (wpAny_setField e1 e3 (by simp) (wpAny_pure ⟨x, rfl, wpAny_pure (k _ ?_ (Heap.SameBut.update ..))⟩))
  refine ⟨_, Heap.get?_update_self _ e1 (Obj.isFreed_of_fields (Obj.data_mapFields e3 _)), (Obj.cls_mapFields ..).trans e2, ?_⟩
  rw [Obj.data_mapFields e3]; simp [rawInt]
theorem nextT_end {g t : Addr} {j : Nat} {its : Array Value} {Q : Value → Shared → Prop} (hh : A.handled = none) (a1 : s.heap.IsTupleIter g t j) (a2 : s.heap.IsTuple t its) (a3 : its[j]? = none)
    (k : ∀ h' e, Heap.ExtBut g s.heap h' → (∃ o, h'.get? e = some o ∧ o.cls = .type "StopIteration") → E (.ref e) { s with heap := h' }) : wpAny (model prog w) A (Builtin.SmallTypes.nextOf (.ref g)) Q E s := by
  obtain ⟨o, e1, e2, e3⟩ := id a1; obtain ⟨ot, f1, _, n, f3⟩ := a2
  unfold Builtin.SmallTypes.nextOf
  refine wpAny_bind (wpAny_callSpecial?_slot (name := Str.ofString "__next__") a1.typeIs F.slot_tuple_iterator_next (wpAny_call_entry F.slot_tuple_iterator_next a1.typeIs F.entry_tuple_iterator_next ?_ (F.args_tuple_iterator_next_1 _)))
  show wpAny _ _ (field (.ref g) 0 >>= _) _ _ s; refine wpAny_bind (wpAny_field e1 e3 (x := .ref t) rfl ?_)
  show wpAny _ _ (if (Value.ref t == Value.none) = true then _ else _) _ _ s; rw [if_neg (show ¬ ((Value.ref t == Value.none) = true) from Bool.false_ne_true)]
  show wpAny _ _ (field (.ref g) 1 >>= _) _ _ s; refine wpAny_bind (wpAny_field e1 e3 (x := .int j 0) rfl ?_)
  show wpAny _ _ (seqItems? (.ref t) >>= _) _ _ s; refine wpAny_bind (wpAny_seqItems f1 f3 ?_)
  simp only [Int.toNat_natCast, a3]; refine wpAny_bind (wpAny_rule (wpAny_bind (wpAny_setField e1 e3 (by simp) ?_)))
  show wpAny _ _ (newExc (.type "StopIteration") [] >>= _) _ _ _; refine wpAny_bind ?_
  simp only [newExc, newTuple]; refine wpAny_bind (wpAny_newObj_type ?_ (by size_fits))
  refine wpAny_bind (m := firstArgMember _ _) (wpAny_of_eq (a := Value.none) (by first | rfl | (simp only [firstArgMember]; rfl)) ?_); refine wpAny_newObj_type ?_ (by size_fits)
  simp only [raiseNew]; refine wpAny_bind (wpAny_handled ?_)
  first | rw [show A.in1.handled = none from hh] | rw [hh]
  exact wpAny_bind (wpAny_pure (wpAny_throw (k _ _ (((Heap.SameBut.update ..).extBut.push _).push _) ⟨_, Heap.get?_push_size _ rfl, rfl⟩)))
theorem zipT_item {z TI TO g1 g2 t1 t2 : Addr} {k1 k2 : Nat} {xs ys : Array Value} {x y a b : Value} {Q : Value → Shared → Prop} (D : ZipApart z TI TO g1 g2 t1 t2)
    (hz : IsZip s.heap z TI TO .none) (p1 : IsPair s.heap TI (.ref g1) (.ref g2)) (p2 : IsPair s.heap TO a b) (i1 : s.heap.IsTupleIter g1 t1 k1) (i2 : s.heap.IsTupleIter g2 t2 k2) (l1 : s.heap.IsTuple t1 xs) (l2 : s.heap.IsTuple t2 ys) (hx : xs[k1]? = some x) (hy : ys[k2]? = some y)
    (k : ∀ h', IsZip h' z TI TO (rawInt s.heap.objs.size) → IsPair h' TO x y → h'.IsTupleIter g1 t1 (k1 + 1) → h'.IsTupleIter g2 t2 (k2 + 1) → IsPair h' s.heap.objs.size x y → h'.objs.size = s.heap.objs.size + 1 →
      (∀ c o, c ≠ z → c ≠ TO → c ≠ g1 → c ≠ g2 → s.heap.get? c = some o → h'.get? c = some o) → Q (.ref s.heap.objs.size) { s with heap := h' }) :
    wpAny (model prog w) A (Builtin.«zip.__next__» ⟨[.ref z], []⟩) (fun fin s' => ∃ v, fin = .done (.ret v) ∧ Q v s') E s := by
  show wpAny _ _ (field (.ref z) 2 >>= _) _ _ _; refine wpAny_bind (wpAny_field hz rfl (x := .bool false) rfl ?_)
  show wpAny _ _ (field (.ref z) 3 >>= _) _ _ _; refine wpAny_bind (wpAny_field hz rfl (x := .ref TI) rfl ?_)
  refine wpAny_bind (wpAny_seqItems p1 rfl ?_)
  show wpAny _ _ (Builtin.SmallTypes.ownedTupleIsFree (.ref z) >>= _) _ _ _; refine wpAny_bind ?_
  unfold Builtin.SmallTypes.ownedTupleIsFree; refine wpAny_bind (wpAny_field hz rfl (x := .none) rfl (wpAny_pure ?_))
  simp only [if_true]
  refine wpAny_bind (wpAny_rule ?_)
  refine wpAny_bind (wpAny_field hz rfl (x := .ref TO) rfl ?_); refine wpAny_bind (wpAny_setField_rec hz (by simp) fun hA zA sA => ?_)
  replace zA : IsZip hA z TI TO .ellipsis := zA
  refine wpAny_bind ?_
  simp only [List.zipIdx_cons, List.zipIdx_nil, List.forIn_cons, List.forIn_nil]; refine wpAny_bind (wpAny_bind (wpAny_onRaise ?_))
  show wpAny _ _ (Builtin.SmallTypes.nextOf (.ref g1) >>= _) _ _ _; refine wpAny_bind (nextT_item (i1.extBut sA.extBut D.i1z) (l1.extBut sA.extBut D.l1z) hx fun hB iB sB => wpAny_pure ?_)
  have pB : IsPair hB TO a b := sB.extBut _ _ D.TOi1 (sA.extBut _ _ D.TOz p2)
  refine wpAny_bind (wpAny_seqItems pB rfl ?_); refine wpAny_bind (wpAny_updateSeq_pair pB fun hC pC sC => ?_)
  replace pC : IsPair hC TO x b := pC
  refine wpAny_bind (wpAny_letGo (wpAny_pure ?_)); refine wpAny_bind (wpAny_bind (wpAny_onRaise ?_))
  show wpAny _ _ (Builtin.SmallTypes.nextOf (.ref g2) >>= _) _ _ _
  refine wpAny_bind (nextT_item (((i2.extBut sA.extBut D.i2z).extBut sB.extBut D.i12.symm).extBut sC.extBut D.TOi2.symm) (((l2.extBut sA.extBut D.l2z).extBut sB.extBut D.l2i1).extBut sC.extBut D.l2TO) hy fun hD iD sD => wpAny_pure ?_)
  have pD : IsPair hD TO x b := sD.extBut _ _ D.TOi2 pC
  refine wpAny_bind (wpAny_seqItems pD rfl ?_); refine wpAny_bind (wpAny_updateSeq_pair pD fun hF pF sF => ?_)
  replace pF : IsPair hF TO x y := pF
  refine wpAny_bind (wpAny_letGo (wpAny_pure (wpAny_pure ?_))); refine wpAny_bind (wpAny_seqItems pF rfl ?_); refine wpAny_bind (wpAny_newTuple ?_)
  have eS : hF.objs.size = s.heap.objs.size := by rw [sF.1, sD.1, sC.1, sB.1, sA.1]
  have zF : IsZip hF z TI TO .ellipsis := sF.extBut _ _ D.TOz.symm (sD.extBut _ _ D.i2z.symm (sC.extBut _ _ D.TOz.symm (sB.extBut _ _ D.i1z.symm zA)))
  have kF : ∀ c o, c ≠ z → c ≠ TO → c ≠ g1 → c ≠ g2 → s.heap.get? c = some o → hF.get? c = some o := fun c o c1 c2 c3 c4 e => sF.extBut _ _ c2 (sD.extBut _ _ c4 (sC.extBut _ _ c2 (sB.extBut _ _ c3 (sA.extBut _ _ c1 e))))
  have iF : hF.IsTupleIter g1 t1 (k1 + 1) := ((iB.extBut sC.extBut D.TOi1.symm).extBut sD.extBut D.i12).extBut sF.extBut D.TOi1.symm
  have jF : hF.IsTupleIter g2 t2 (k2 + 1) := iD.extBut sF.extBut D.TOi2.symm
  have ltz : z < hF.objs.size := Heap.lt_size zF
  show wpAny _ _ (Builtin.SmallTypes.ownedTupleHandOut (.ref z) (.ref hF.objs.size) >>= _) _ _ _; refine wpAny_bind ?_
  unfold Builtin.SmallTypes.ownedTupleHandOut
  have zG : IsZip (hF.push { cls := .type "tuple", data := .seq #[x, y] }) z TI TO .ellipsis := Heap.get?_push_of_some _ zF
  refine wpAny_bind (wpAny_setField_rec zG (by simp) fun hI zI sI => ?_); replace zI : IsZip hI z TI TO (rawInt hF.objs.size) := zI
  refine wpAny_setField_rec zI (by simp) fun hJ zJ sJ => ?_; replace zJ : IsZip hJ z TI TO (rawInt hF.objs.size) := zJ
  have up : ∀ c o, c ≠ z → hF.get? c = some o → hJ.get? c = some o := fun c o c1 e => sJ.extBut _ _ c1 (sI.extBut _ _ c1 (Heap.get?_push_of_some _ e))
  have pJ : IsPair hJ hF.objs.size x y := sJ.extBut _ _ (Nat.ne_of_gt ltz) (sI.extBut _ _ (Nat.ne_of_gt ltz) (Heap.get?_push_size _ rfl))
  have eJ : hJ.objs.size = hF.objs.size + 1 := by rw [sJ.1, sI.1, Heap.size_push]
  rw [eS] at zJ pJ eJ
  refine wpAny_pure ⟨_, rfl, ?_⟩
  show Q (.ref hF.objs.size) _; rw [eS]
  exact k hJ zJ (up _ _ D.TOz pF) (iF.at fun o e => up _ o D.i1z e) (jF.at fun o e => up _ o D.i2z e) pJ eJ fun c o c1 c2 c3 c4 e => up c o c1 (kF c o c1 c2 c3 c4 e)
theorem zipT_end {z TI TO g1 g2 t1 t2 : Addr} {k1 k2 : Nat} {xs ys : Array Value} {a b : Value} {Q : Fin → Shared → Prop} (hh : A.handled = none) (D : ZipApart z TI TO g1 g2 t1 t2)
    (hz : IsZip s.heap z TI TO .none) (p1 : IsPair s.heap TI (.ref g1) (.ref g2)) (p2 : IsPair s.heap TO a b) (i1 : s.heap.IsTupleIter g1 t1 k1) (i2 : s.heap.IsTupleIter g2 t2 k2) (l1 : s.heap.IsTuple t1 xs) (l2 : s.heap.IsTuple t2 ys) (hend : xs[k1]? = none)
    (k : ∀ h' e, (∀ c o, c ≠ z → c ≠ TO → c ≠ g1 → c ≠ g2 → s.heap.get? c = some o → h'.get? c = some o) → (∃ o, h'.get? e = some o ∧ o.cls = .type "StopIteration") → E (.ref e) { s with heap := h' }) :
    wpAny (model prog w) A (Builtin.«zip.__next__» ⟨[.ref z], []⟩) Q E s := by
  show wpAny _ _ (field (.ref z) 2 >>= _) _ _ _; refine wpAny_bind (wpAny_field hz rfl (x := .bool false) rfl ?_)
  show wpAny _ _ (field (.ref z) 3 >>= _) _ _ _; refine wpAny_bind (wpAny_field hz rfl (x := .ref TI) rfl ?_)
  refine wpAny_bind (wpAny_seqItems p1 rfl ?_)
  show wpAny _ _ (Builtin.SmallTypes.ownedTupleIsFree (.ref z) >>= _) _ _ _; refine wpAny_bind ?_
  unfold Builtin.SmallTypes.ownedTupleIsFree; refine wpAny_bind (wpAny_field hz rfl (x := .none) rfl (wpAny_pure ?_))
  simp only [if_true]
  refine wpAny_bind (wpAny_rule ?_)
  refine wpAny_bind (wpAny_field hz rfl (x := .ref TO) rfl ?_); refine wpAny_bind (wpAny_setField_rec hz (by simp) fun hA zA sA => ?_)
  replace zA : IsZip hA z TI TO .ellipsis := zA
  refine wpAny_bind ?_
  simp only [List.zipIdx_cons, List.zipIdx_nil, List.forIn_cons, List.forIn_nil]; refine wpAny_bind (wpAny_bind (wpAny_onRaise ?_))
  show wpAny _ _ (Builtin.SmallTypes.nextOf (.ref g1) >>= _) _ _ _; refine wpAny_bind (nextT_end hh (i1.extBut sA.extBut D.i1z) (l1.extBut sA.extBut D.l1z) hend fun hB e sB he => ?_)
  obtain ⟨oe, hoe, hce⟩ := he
  have zB : IsZip hB z TI TO .ellipsis := sB _ _ D.i1z.symm zA
  have hez : e ≠ z := fun q => by subst q; rw [zB] at hoe; cases hoe; simp at hce
  exact wpAny_setField_rec zB (by simp) fun hC _ sC => k hC e (fun c o c1 _ c3 _ q => sC.extBut _ _ c1 (sB _ _ c3 (sA.extBut _ _ c1 q))) ⟨oe, sC.extBut _ _ hez hoe, hce⟩
theorem nextZT_item {z TI TO g1 g2 t1 t2 : Addr} {k1 k2 : Nat} {xs ys : Array Value} {x y a b : Value} {Q : Option Value → Shared → Prop} (D : ZipApart z TI TO g1 g2 t1 t2)
    (hz : IsZip s.heap z TI TO .none) (p1 : IsPair s.heap TI (.ref g1) (.ref g2)) (p2 : IsPair s.heap TO a b) (i1 : s.heap.IsTupleIter g1 t1 k1) (i2 : s.heap.IsTupleIter g2 t2 k2) (l1 : s.heap.IsTuple t1 xs) (l2 : s.heap.IsTuple t2 ys) (hx : xs[k1]? = some x) (hy : ys[k2]? = some y)
    (k : ∀ h', IsZip h' z TI TO (rawInt s.heap.objs.size) → IsPair h' TO x y → h'.IsTupleIter g1 t1 (k1 + 1) → h'.IsTupleIter g2 t2 (k2 + 1) → IsPair h' s.heap.objs.size x y → h'.objs.size = s.heap.objs.size + 1 →
      (∀ c o, c ≠ z → c ≠ TO → c ≠ g1 → c ≠ g2 → s.heap.get? c = some o → h'.get? c = some o) → Q (some (.ref s.heap.objs.size)) { s with heap := h' }) : wpAny (model prog w) A (pyNext (.ref z)) Q E s := by
  have ty : s.TypeIs (.ref z) "zip" := ⟨_, hz, rfl⟩
  unfold pyNext
  exact wpAny_bind (wpAny_attempt (wpAny_callSpecial?_slot (name := Str.ofString "__next__") ty F.slot_zip_next (wpAny_call_entry F.slot_zip_next ty F.entry_zip_next
    (zipT_item D hz p1 p2 i1 i2 l1 l2 hx hy fun h' a1 a2 a3 a4 a5 a6 a7 => wpAny_pure (k h' a1 a2 a3 a4 a5 a6 a7)) (F.args_zip_next_1 _))))
theorem nextZT_end {z TI TO g1 g2 t1 t2 : Addr} {k1 k2 : Nat} {xs ys : Array Value} {a b : Value} {Q : Option Value → Shared → Prop} (hh : A.handled = none) (D : ZipApart z TI TO g1 g2 t1 t2)
    (hz : IsZip s.heap z TI TO .none) (p1 : IsPair s.heap TI (.ref g1) (.ref g2)) (p2 : IsPair s.heap TO a b) (i1 : s.heap.IsTupleIter g1 t1 k1) (i2 : s.heap.IsTupleIter g2 t2 k2) (l1 : s.heap.IsTuple t1 xs) (l2 : s.heap.IsTuple t2 ys) (hend : xs[k1]? = none)
    (k : ∀ h', (∀ c o, c ≠ z → c ≠ TO → c ≠ g1 → c ≠ g2 → s.heap.get? c = some o → h'.get? c = some o) → Q none { s with heap := h' }) : wpAny (model prog w) A (pyNext (.ref z)) Q E s := by
  have ty : s.TypeIs (.ref z) "zip" := ⟨_, hz, rfl⟩
  unfold pyNext
  refine wpAny_bind (wpAny_attempt (wpAny_callSpecial?_slot (name := Str.ofString "__next__") ty F.slot_zip_next (wpAny_call_entry F.slot_zip_next ty F.entry_zip_next
    (zipT_end hh D hz p1 p2 i1 i2 l1 l2 hend fun h' e hk he => ?_) (F.args_zip_next_1 _))))
  obtain ⟨o, ho, hc⟩ := he
  exact wpAny_bind (wpAny_isInstance (T := "StopIteration") (b := true) ⟨o, ho, hc⟩ isSubtype_stop (wpAny_pure (k _ hk)))
abbrev tzH1 (h : Heap) (t1 : Addr) : Heap := h.push { cls := .type "tuple_iterator", data := .fields #[.ref t1, .int 0 0] }
abbrev tzH2 (h : Heap) (t1 t2 : Addr) : Heap := (tzH1 h t1).push { cls := .type "tuple_iterator", data := .fields #[.ref t2, .int 0 0] }
abbrev tzH3 (h : Heap) (t1 t2 : Addr) : Heap := (tzH2 h t1 t2).push { cls := .type "tuple", data := .seq #[.ref h.objs.size, .ref (tzH1 h t1).objs.size] }
abbrev tzH4 (h : Heap) (t1 t2 : Addr) : Heap := (tzH3 h t1 t2).push { cls := .type "tuple", data := .seq #[.none, .none] }
abbrev tzH5 (h : Heap) (t1 t2 : Addr) : Heap := (tzH4 h t1 t2).push { cls := .type "zip", data := .fields #[.none, .bool false, .bool false, .ref (tzH2 h t1 t2).objs.size, .ref (tzH3 h t1 t2).objs.size] }
theorem meets_zipT (t1 t2 : Addr) (xs ys : Array Value) : Meets (Builtin.«zip.__new__» ⟨[.type "zip", .ref t1, .ref t2], []⟩) (fun _ R s => s.heap.IsTuple t1 xs ∧ s.heap.IsTuple t2 ys ∧ R (.ok (.ret (.ref (tzH4 s.heap t1 t2).objs.size))) { s with heap := tzH5 s.heap t1 t2 }) :=
  .of_wp fun prog w A R s h => by
    obtain ⟨hp, g, d, tk, os⟩ := s; obtain ⟨q1, q2, h⟩ := h; have hsub := sub_zip
    have L1 : Heap.IsTuple (Shared.heap ⟨hp, g, d, tk, os⟩) t1 xs := q1
    have L2 : Heap.IsTuple (Shared.heap ⟨hp.push { cls := .type "tuple_iterator", data := .fields #[.ref t1, .int 0 0] }, g, d, tk, os⟩) t2 ys := Heap.IsTuple.push q2 _
    wp_walk using wpAny_pyIter_tuple L1, wpAny_pyIter_tuple L2
    exact ⟨_, rfl, h⟩
theorem call_zipT {t1 t2 : Addr} {xs ys : Array Value} {Q : Value → Shared → Prop} (q1 : s.heap.IsTuple t1 xs) (q2 : s.heap.IsTuple t2 ys)
    (k : ∀ h', IsZip h' (s.heap.objs.size + 4) (s.heap.objs.size + 2) (s.heap.objs.size + 3) .none → IsPair h' (s.heap.objs.size + 2) (.ref s.heap.objs.size) (.ref (s.heap.objs.size + 1)) → IsPair h' (s.heap.objs.size + 3) .none .none →
      h'.IsTupleIter s.heap.objs.size t1 0 → h'.IsTupleIter (s.heap.objs.size + 1) t2 0 → h'.objs.size = s.heap.objs.size + 5 → (∀ c o, s.heap.get? c = some o → h'.get? c = some o) → Q (.ref (s.heap.objs.size + 4)) { s with heap := h' }) :
    wpAny (model prog w) A (call (.type "zip") [.ref t1, .ref t2]) Q E s := by
  refine callType_new F.called_zip (by decide) (F.typeCall_zip_2 _ _) (F.newCall_zip_2 _ _) (fun obj => F.args_object_init_3 obj _ _) F.entry_zip_new (meets_zipT t1 t2 xs ys) ⟨q1, q2, ?_⟩
  have n1 : (tzH1 s.heap t1).objs.size = s.heap.objs.size + 1 := Heap.size_push ..
  have n2 : (tzH2 s.heap t1 t2).objs.size = s.heap.objs.size + 2 := by rw [Heap.size_push, n1]
  have n3 : (tzH3 s.heap t1 t2).objs.size = s.heap.objs.size + 3 := by rw [Heap.size_push, n2]
  have n4 : (tzH4 s.heap t1 t2).objs.size = s.heap.objs.size + 4 := by rw [Heap.size_push, n3]
  have n5 : (tzH5 s.heap t1 t2).objs.size = s.heap.objs.size + 5 := by rw [Heap.size_push, n4]
  have k5 : (tzH5 s.heap t1 t2).get? (tzH4 s.heap t1 t2).objs.size = some _ := Heap.get?_push_size _ rfl
  have k4 : (tzH5 s.heap t1 t2).get? (tzH3 s.heap t1 t2).objs.size = some _ := Heap.get?_push_of_some _ (Heap.get?_push_size _ rfl)
  have k3 : (tzH5 s.heap t1 t2).get? (tzH2 s.heap t1 t2).objs.size = some _ := Heap.get?_push_of_some _ (Heap.get?_push_of_some _ (Heap.get?_push_size _ rfl))
  have k2 : (tzH5 s.heap t1 t2).get? (tzH1 s.heap t1).objs.size = some _ := Heap.get?_push_of_some _ (Heap.get?_push_of_some _ (Heap.get?_push_of_some _ (Heap.get?_push_size _ rfl)))
  have k1 : (tzH5 s.heap t1 t2).get? s.heap.objs.size = some _ := Heap.get?_push_of_some _ (Heap.get?_push_of_some _ (Heap.get?_push_of_some _ (Heap.get?_push_of_some _ (Heap.get?_push_size _ rfl))))
  show _ ∧ _
  rw [n2, n3, n4] at k5; rw [n1, n2] at k3; rw [n3] at k4; rw [n1] at k2; rw [n4]
  exact ⟨⟨_, k5, rfl⟩, k _ k5 k3 k4 ⟨_, k1, rfl, rfl⟩ ⟨_, k2, rfl, rfl⟩ n5 fun c o q => Heap.get?_push_of_some _ (Heap.get?_push_of_some _ (Heap.get?_push_of_some _ (Heap.get?_push_of_some _ (Heap.get?_push_of_some _ q))))⟩
end
end L2
namespace L2
open PySem PySem.Spec PyProof.Rows
def ItT (K : PySem.W.Frag) (a b : Addr) : It :=
  ⟨fun i H => ∃ xs ys x y, SqT K H a xs ∧ SqT K H b ys ∧ xs[i]? = some x ∧ ys[i]? = some y,
   fun i H v H' => ∃ p x y, H p = none ∧ v = .ref p ∧ H' = upd H p (.tup [x, y]) ∧ (∀ xs, SqT K H a xs → xs[i]? = some x) ∧ ∀ ys, SqT K H b ys → ys[i]? = some y,
   fun i H => ∃ xs ys, SqT K H a xs ∧ SqT K H b ys ∧ xs.length ≤ i⟩
theorem seqT_off {X : Cx} {pins : List (Addr × Obj)} {σ : St} {H : Hp} {s : Shared} {a b : Addr} {xs : List V} (I : Inv X pins σ H s) (h : SqT X.K H a xs) (f : FpOk X pins H b) : a ≠ b := by
  rintro rfl
  rcases h with (h | ⟨o, h⟩) | ⟨o, its, n, hk, _⟩
  · rw [f.1] at h; cases h
  · rw [f.1] at h; cases h
  · have e := I.mod.kin a o hk
    rcases f.2.2.2.1 with q | q
    · exact I.ok.noex a o e q
    · exact absurd (Nat.lt_of_lt_of_le (Heap.lt_size (I.ok.bs a o e).1) q) (Nat.lt_irrefl _)
abbrev tSt (z TI TO g1 g2 a b : Addr) (i : Nat) (h : Heap) : Prop := IsZip h z TI TO .none ∧ IsPair h TI (.ref g1) (.ref g2) ∧ (∃ u v, IsPair h TO u v) ∧ h.IsTupleIter g1 a i ∧ h.IsTupleIter g2 b i
theorem tapart {X : Cx} {pins : List (Addr × Obj)} {σ : St} {H : Hp} {s : Shared} {z TI TO g1 g2 a b : Addr} {xs ys : List V} (D : ZA z TI TO g1 g2) (I : Inv X pins σ H s) (hf : ∀ c ∈ [z, TI, TO, g1, g2], FpOk X pins H c) (h1 : SqT X.K H a xs) (h2 : SqT X.K H b ys) : ZipApart z TI TO g1 g2 a b := by
  have k := fun c hc => seqT_off I h1 (hf c hc)
  have m := fun c hc => seqT_off I h2 (hf c hc)
  exact ⟨D.TIz, D.TOz, D.i1z, D.i2z, D.TITO, D.TIi1, D.TIi2, D.TOi1, D.TOi2, D.i12, k z (by simp), k TO (by simp), k g1 (by simp), k g2 (by simp), m z (by simp), m TO (by simp), m g1 (by simp), m g2 (by simp)⟩
theorem turn_zipT {P : Program} {w : World} {K : PySem.W.Frag} {elts : List Expr} {k : Nat} {pos : Pos} (a b z TI TO i1 i2 : Addr) (D : ZA z TI TO i1 i2) : Turn P w K (.Tuple elts k pos) (ItT K a b) [z, TI, TO, i1, i2] z (tSt z TI TO i1 i2 a b) where
  mem := by simp
  obj := fun i h st c hc => by
    obtain ⟨hz, hTI, ⟨u, v, hTO⟩, ⟨o1, e1, c1, d1⟩, ⟨o2, e2, c2, d2⟩⟩ := st
    have hc' : c = z ∨ c = TI ∨ c = TO ∨ c = i1 ∨ c = i2 := by simpa using hc
    rcases hc' with rfl | rfl | rfl | rfl | rfl
    · exact ⟨_, hz, fun v' q => by
        have q' : Data.fields _ = Data.cell v' := q
        cases q'⟩
    · exact ⟨_, hTI, fun v' q => by
        have q' : Data.seq _ _ = Data.cell v' := q
        cases q'⟩
    · exact ⟨_, hTO, fun v' q => by
        have q' : Data.seq _ _ = Data.cell v' := q
        cases q'⟩
    · exact ⟨o1, e1, fun v' q => by rw [d1] at q; cases q⟩
    · exact ⟨o2, e2, fun v' q => by rw [d2] at q; cases q⟩
  keep := fun i h h' st k => by
    obtain ⟨hz, hTI, ⟨u, v, hTO⟩, h1, h2⟩ := st
    exact ⟨k z (by simp) _ hz, k TI (by simp) _ hTI, ⟨u, v, k TO (by simp) _ hTO⟩, h1.at fun o x => k i1 (by simp) o x, h2.at fun o x => k i2 (by simp) o x⟩
  item := by
    intro X hP hw hK hc i pins s σ H E I hf st hg
    subst hP hw hK
    obtain ⟨xs, ys, x, y, hq1, hq2, hx, hy⟩ := hg
    obtain ⟨its, rv, p, hz1⟩ := I.tuple hq1
    obtain ⟨its2, rv2, p2, hz2⟩ := I.tuple hq2
    obtain ⟨u, hu, ru⟩ := rv.get hx
    obtain ⟨u2, hu2, ru2⟩ := rv2.get hy
    have ZD := tapart D I hf hq1 hq2
    obtain ⟨hz, hTI, ⟨v1, v2, hTO⟩, h1, h2⟩ := st
    refine nextZT_item ZD hz hTI hTO h1 h2 p p2 (x := u) (y := u2) (by simpa using hu) (by simpa using hu2) fun h' hz' hTO' h1' h2' hT hsz hk => ⟨_, rfl, ?_⟩
    refine wpAny_letOwnedTupleGo_zip hz' fun h'' hz'' hs'' => ?_
    have hn : H s.heap.objs.size = none := I.hok.fresh (Nat.le_refl _)
    have hzlt : z < s.heap.objs.size := Heap.lt_size hz
    have hk' : ∀ c o, c ∉ [z, TI, TO, i1, i2] → s.heap.get? c = some o → h''.get? c = some o := fun c o hc' q =>
      (hs''.2 c (fun e => hc' (by simp [e]))).trans (hk c o (fun e => hc' (by simp [e])) (fun e => hc' (by simp [e])) (fun e => hc' (by simp [e])) (fun e => hc' (by simp [e])) q)
    have hT' : h''.get? s.heap.objs.size = some { cls := .type "tuple", data := .seq #[u, u2] } := (hs''.2 _ (Nat.ne_of_gt hzlt)).trans hT
    have nt : ∀ c o, H c = some o → c ∉ [z, TI, TO, i1, i2] := fun c o q hc' => by
      rw [(hf c hc').1] at q
      cases q
    have I1 : Inv X pins σ (upd H s.heap.objs.size (.tup [x, y])) { s with heap := h'' } := by
      refine I.step (g' := s.gens) (d' := s.drawn) (t' := s.toks) (ch := [z, TI, TO, i1, i2]) (fun c hc' => ?_) (fun c o _ _ hc' q _ => hk' c o hc' q)
        (fun c o _ _ hc' q _ => ⟨o.slots, hk' c o hc' q⟩) (fun c o _ q n => ?_) (fun c o hc' q => ⟨o, hk' c o hc' q⟩)
        (fun c ys q => ?_) (fun c o u' q => ?_) (fun c ps q => ⟨#[], ?_⟩) (fun m hm => ?_) (fun c o q => ?_) I.bare
      · exact ⟨(hf c hc').2.2.2.1, (hf c hc').2.1, (hf c hc').2.2.2.2.1, (hf c hc').2.2.2.2.2⟩
      · rw [upd_ne (Nat.ne_of_lt (Heap.lt_size q))]; exact n
      · rw [upd_ne (ne_of_none q hn)]; exact q
      · rw [upd_ne (ne_of_none q hn)]; exact q
      · rw [upd_ne (ne_of_none q hn), q]; simp
      · obtain ⟨o, es, ep, ho', r⟩ := hm
        exact ⟨o, es, ep, hk' _ o (fun hc' => (hf _ hc').2.1 rfl) ho', r⟩
      · by_cases hb : c = s.heap.objs.size
        · subst hb
          rw [upd_same] at q
          cases q
          refine ⟨by simp only [List.length_cons, List.length_nil]; rw [sizeLine_eq]; decide, [u, u2], .cons ru (.cons ru2 .nil), _, hT', rfl, 0, rfl⟩
        · rw [upd_ne hb] at q
          refine (I.hok c o q).stay (fun e v hc' q' => ?_) (fun e q' => by rw [upd_ne (ne_of_none q' hn)]; exact q') fun e ys q' => by rw [upd_ne (ne_of_none q' hn)]; exact q'
          rcases hc' with z' | z'
          · rw [z'] at q' ⊢
            exact hk' c v (nt c o q) q'
          · exact hk' e v (nt e _ z') q'
    refine ⟨.ref s.heap.objs.size, _, I1, rfl, ⟨_, x, y, hn, rfl, rfl, fun zs hy' => by rw [I.tuple_inj hy' hq1]; exact hx, fun zs hy' => by rw [I.tuple_inj hy' hq2]; exact hy⟩, ⟨hz'', ?_, ⟨u, u2, (hs''.2 _ D.TOz).trans hTO'⟩, ?_, ?_⟩, fun c hc' => ?_⟩
    · exact (hs''.2 _ D.TIz).trans (hk _ _ D.TIz D.TITO D.TIi1 D.TIi2 hTI)
    · exact h1'.at fun o q => (hs''.2 i1 D.i1z).trans q
    · exact h2'.at fun o q => (hs''.2 i2 D.i2z).trans q
    · have hcl : c < s.heap.objs.size := by
        obtain ⟨o1, e1, _⟩ := h1
        obtain ⟨o2, e2, _⟩ := h2
        have hc2 : c = z ∨ c = TI ∨ c = TO ∨ c = i1 ∨ c = i2 := by simpa using hc'
        rcases hc2 with rfl | rfl | rfl | rfl | rfl
        · exact hzlt
        · exact Heap.lt_size hTI
        · exact Heap.lt_size hTO
        · exact Heap.lt_size e1
        · exact Heap.lt_size e2
      rw [upd_ne (Nat.ne_of_lt hcl)]
      exact (hf c hc').1
  done := by
    intro X hP hw hK hc i pins s σ H E I hf st hg
    subst hP hw hK
    obtain ⟨xs, ys, hq1, hq2, hx⟩ := hg
    obtain ⟨its, rv, p, hz1⟩ := I.tuple hq1
    obtain ⟨its2, rv2, p2, hz2⟩ := I.tuple hq2
    have ZD := tapart D I hf hq1 hq2
    obtain ⟨hz, hTI, ⟨v1, v2, hTO⟩, h1, h2⟩ := st
    have l1 := rv.length
    refine nextZT_end (I.ok.hd hc) ZD hz hTI hTO h1 h2 p p2 (by simp; omega) fun h' hk => ⟨rfl, ?_⟩
    have kk : ∀ c o, c ∉ [z, TI, TO, i1, i2] → s.heap.get? c = some o → h'.get? c = some o := fun c o hc' q => hk c o (fun e => hc' (by simp [e])) (fun e => hc' (by simp [e])) (fun e => hc' (by simp [e])) (fun e => hc' (by simp [e])) q
    have nt : ∀ c o, H c = some o → c ∉ [z, TI, TO, i1, i2] := fun c o q hc' => by
      rw [(hf c hc').1] at q
      cases q
    refine I.step (g' := s.gens) (d' := s.drawn) (t' := s.toks) (ch := [z, TI, TO, i1, i2]) (fun c hc' => ⟨(hf c hc').2.2.2.1, (hf c hc').2.1, (hf c hc').2.2.2.2.1, (hf c hc').2.2.2.2.2⟩) (fun c o _ _ hc' q _ => kk c o hc' q)
      (fun c o _ _ hc' q _ => ⟨o.slots, kk c o hc' q⟩) (fun c o _ q n => n) (fun c o hc' q => ⟨o, kk c o hc' q⟩)
      (fun c ys q => q) (fun c o u' q => q) (fun c ps q => ⟨#[], by rw [q]; simp⟩) (fun m hm => ?_) (fun c o q => ?_) I.bare
    · obtain ⟨o, es, ep, ho', r⟩ := hm
      exact ⟨o, es, ep, kk _ o (fun hc' => (hf _ hc').2.1 rfl) ho', r⟩
    · refine (I.hok c o q).stay (fun e v hc' q' => ?_) (fun e q' => q') fun e ys q' => q'
      rcases hc' with z' | z'
      · rw [z'] at q' ⊢
        exact kk c v (nt c o q) q'
      · exact kk e v (nt e _ z') q'
  self := fun _ _ _ _ _ st h => wpAny_pyIter_zip st.1 h
def iZipT (K : PySem.W.Frag) (ta : TA) : TI := fun σ H R => ta σ H fun vs H1 => ∃ a b, vs = [.ref a, .ref b] ∧ (∃ xs, SqT K H1 a xs) ∧ (∃ ys, SqT K H1 b ys) ∧ R (ItT K a b) H1
theorem pi_zipT {X : Cx} {elts : List Expr} {k : Nat} {tpos p pos : Pos} {a b : Expr} {ta : TA} (hg : Gl X "zip") (hm : X.mg "zip" = none) (ha : PA X [a, b] ta) (hs : starEach [a, b] X.env = [(false, eval a X.env), (false, eval b X.env)] := by rfl) (hs2 : starEach [b] X.env = [(false, eval b X.env)] := by rfl) :
    PI X (.Tuple elts k tpos) (.Call (.Name "zip" p) [a, b] [] pos) (iZipT X.K ta) := by
  intro pins s σ H R I h
  refine Call_ (ld_blt I hg hm boot_zip (PyProof.Rows.callWith_type1 (thn (ha pos pins s σ H _ I h) fun us s1 ⟨vs, H1, I1, r1, q1⟩ => ?_) (by rw [hs, hs2]) (by rw [hs2]; rfl)))
  obtain ⟨l1, l2, e, ⟨xs, hq1⟩, ⟨ys, hq2⟩, q⟩ := q1
  subst e
  obtain ⟨u1, u2, rfl, r1', r2'⟩ := vals2 r1
  cases r1'
  cases r2'
  obtain ⟨its, rv, pl, hz⟩ := I1.tuple hq1
  obtain ⟨its2, rv2, pl2, hz2⟩ := I1.tuple hq2
  refine call_zipT pl pl2 fun h' hZ hTI hTO h1 h2 hsz hk => ?_
  have I2 : Inv X pins σ H1 { s1 with heap := h' } := I1.kept (t' := s1.toks) hk
  refine wpAny_pyIter_zip hZ ?_
  have D : ZA (s1.heap.objs.size + 4) (s1.heap.objs.size + 2) (s1.heap.objs.size + 3) s1.heap.objs.size (s1.heap.objs.size + 1) := za_of _
  refine ⟨s1.heap.objs.size + 4, [s1.heap.objs.size + 4, s1.heap.objs.size + 2, s1.heap.objs.size + 3, s1.heap.objs.size, s1.heap.objs.size + 1], _, _, H1, rfl, I2, turn_zipT l1 l2 _ _ _ _ _ D, ⟨hZ, hTI, ⟨_, _, hTO⟩, h1, h2⟩, fun c hc => ?_, q⟩
  have hb' : s1.heap.objs.size ≤ c := by
    have hc2 : c = s1.heap.objs.size + 4 ∨ c = s1.heap.objs.size + 2 ∨ c = s1.heap.objs.size + 3 ∨ c = s1.heap.objs.size ∨ c = s1.heap.objs.size + 1 := by simpa using hc
    rcases hc2 with rfl | rfl | rfl | rfl | rfl
    · exact Nat.le_add_right _ _
    · exact Nat.le_add_right _ _
    · exact Nat.le_add_right _ _
    · exact Nat.le_refl _
    · exact Nat.le_add_right _ _
  exact I1.fpOk hb' (I1.hok.fresh hb')
theorem Same.sqT {K : PySem.W.Frag} {H H' : Hp} {a : Addr} {xs : List V} (e : Same H H') (h : SqT K H a xs) : SqT K H' a xs := by
  rcases h with (h | ⟨o, h⟩) | h
  · exact .inl (.inl (e _ _ h))
  · exact .inl (.inr ⟨o, e _ _ h⟩)
  · exact .inr h
theorem tComp_zipT {K : PySem.W.Frag} {a : Addr} {xs zs : List V} {fr : List Nat} {ta : TA} {te : TE} {σ : St} {H : Hp} {Q : VK} (f : Nat → V) (h : ∀ Q' : List V → Hp → Prop, (∀ b H1, Same H H1 → SqT K H1 b zs → Q' [.ref a, .ref b] H1) → ta σ H Q') (ha : SqT K H a xs) (hl : xs.length = zs.length) (hz : xs.length < sizeLine)
    (he : ∀ i x y H3 (Qe : VK), xs[i]? = some x → zs[i]? = some y → Same H H3 → (∀ H5, Same H3 H5 → Qe (f i) H5) → te (some x :: some y :: frV fr σ) H3 Qe)
    (fin : ∀ D H', H D = none → Same H H' → H' D = some (.lst ((List.range xs.length).map f)) → Q (.ref D) H') : tComp 2 fr (iZipT K ta) (gTup K 2 (gCons (gName 0) (gCons (gName 1) gNil))) tYes te σ H Q := by
  refine h _ fun b H0 s0 hb => ⟨a, b, rfl, ⟨xs, s0.sqT ha⟩, ⟨zs, hb⟩, fun D hD => ?_⟩
  refine comp_by (J := ItT K a b) xs.length (fun i ys H' => ys = (List.range i).map f ∧ Same H0 H') hz ⟨rfl, same_new hD⟩ (fun i ys H' hi ⟨_, s⟩ => ?_) (fun ys H' ⟨_, s⟩ => ⟨xs, zs, s.sqT (s0.sqT ha), s.sqT hb, Nat.le_refl _⟩) (fun i ys H' o N hi ho ⟨e, s⟩ hd hys kT kF x H2 y => ?_) (fun ys H' ⟨e, s⟩ hd => fin D H' (s0.free hD) (s0.trans s) (by rw [hd, e]))
  · exact ⟨xs, zs, xs[i], zs[i], s.sqT (s0.sqT ha), s.sqT hb, by simp [hi], by simp [show i < zs.length by omega]⟩
  · obtain ⟨p, u, v, hp, rfl, rfl, hu, hv⟩ := y
    have hu := hu xs (s.sqT (s0.sqT ha))
    have hv := hv zs (s.sqT hb)
    match o, ho with
    | [o1, o2], _ =>
      refine ⟨p, _, rfl, SqT.of upd_same, rfl, _, _, rfl, _, _, rfl, rfl, ?_⟩
      have sp : Same H' (upd H' p (.tup [u, v])) := same_new hp
      have q := he i u v (upd H' p (.tup [u, v])) (fun v' H5 => ∃ ys, H5 D = some (.lst ys) ∧ ys.length < sizeLine ∧ N (some u :: some v :: frV fr σ) (upd H5 D (.lst (ys ++ [v'])))) hu hv (s0.trans (s.trans sp)) fun H5 s5 => ⟨ys, s5 _ _ (sp _ _ hd), hys, kT [some u, some v] (f i) H5 rfl ⟨?_, ?_⟩⟩
      · exact q
      · rw [e, List.range_succ, List.map_append]; rfl
      · exact fun b o q => by rw [upd_ne (ne_of_none q hD)]; exact s5 _ _ (sp _ _ (s _ _ q))
end L2
namespace L2
open PySem PySem.Spec PyProof.Rows
def KDic (P : Program) (w : World) (K : PySem.W.Frag) (a : Addr) (kvs : List (Key × V)) : Prop := (a == sysModules) = false ∧ ∃ vs, KV kvs vs ∧ ∀ h : Heap, K.In h → h.DictOf (mixKind P w) a vs
theorem kdic_of {P : Program} {w : World} {K : PySem.W.Frag} {a : Addr} {nn : Nat} {ws : List (Str × Tok × Addr)} (h0 : (a == sysModules) = false)
    (l : K.lookup a = some ⟨.type "dict", none, .dict (ws.map fun x => (⟨PyData.keyHash w.params x.1, .str x.1 x.2.1, .ref x.2.2⟩ : DictEntry)).toArray nn, #[]⟩) (nd : (ws.map fun x => (Sum.inr x.1 : Key)).Nodup) :
    KDic P w K a (ws.map fun x => (Sum.inr x.1, V.ref x.2.2)) := by
  refine ⟨h0, ws.map fun x => (Sum.inr x.1, Value.ref x.2.2), ?_, fun h X => ⟨_, _, nn, X a _ l, ⟨rfl, rfl, rfl⟩, rfl, ?_, ?_, ?_⟩⟩
  · clear l nd
    induction ws with
    | nil => exact .nil
    | cons x r ih => exact .cons ⟨rfl, rfl⟩ ih
  · intro e he
    have he' : e ∈ ws.map fun x => (⟨PyData.keyHash w.params x.1, .str x.1 x.2.1, .ref x.2.2⟩ : DictEntry) := by simpa using he
    obtain ⟨x, _, rfl⟩ := List.mem_map.mp he'
    exact ⟨Sum.inr x.1, mixKind_str P w x.1 x.2.1, rfl⟩
  · clear l nd
    show Pairs _ (ws.map _) _
    induction ws with
    | nil => exact .nil
    | cons x r ih => exact .cons (mixKind_str P w x.1 x.2.1) rfl ih
  · rw [List.map_map]
    exact nd
def rNotInK (P : Program) (w : World) (K : PySem.W.Frag) : R2 := fun x y H Q => ∃ a kvs k, y = .ref a ∧ KDic P w K a kvs ∧ x = kV k ∧ Q (.bl (!(valV kvs k).isSome)) H
theorem op_notInK {X : Cx} : OpR X (compareOp .NotIn) (rNotInK X.prog X.w X.K) := by
  intro pins s σ H x y v u Q I rx ry h
  obtain ⟨a, kvs, k, rfl, ⟨hd, vs, rel, dd⟩, rfl, q⟩ := h
  cases ry
  refine wpAny_notIn_of (kV_is rx) hd (dd s.heap I.kIn).mapOf ?_
  rw [← (rel.val k).isSome_eq]
  exact ⟨.bl _, H, I.tok _, rfl, q⟩
def rIxK (P : Program) (w : World) (K : PySem.W.Frag) : R2 := fun x y H Q => ∃ a kvs k v, x = .ref a ∧ KDic P w K a kvs ∧ y = kV k ∧ valV kvs k = some v ∧ Q v H
theorem ix_K {X : Cx} : IxR X (rIxK X.prog X.w X.K) := by
  intro value slice pins s σ H x y v u Q I rx ry h hs
  obtain ⟨a, kvs, k, z, rfl, ⟨hd, vs, rel, dd⟩, rfl, he, q⟩ := h
  cases rx
  have D := dd s.heap I.kIn
  obtain ⟨w', hw, rw'⟩ := RelO.some_of (v := z) (o := valueAt vs k) (by rw [← he]; exact rel.val k)
  exact subscriptTail_builtinR (x := w') D.typeIs PySem.F.slot_dict_getitem.lookup (wpAny_getItem_of (Q := fun r s' => r = w' ∧ EP X pins σ Q r s') (kV_is ry) D.mapOf hw ⟨rfl, z, H, I.tok _, rw', q⟩) hs
end L2
namespace L2
open PySem PySem.Spec PyProof.Rows
section
variable {P : Program} {w : World} {H : Hp} {h : Heap} {a : Addr} {o : HO}
theorem ObjOk.there (x : ObjOk P w H h a o) : ∃ q, h.get? a = some q := by
  cases o with
  | lst xs => obtain ⟨_, _, _, _, e⟩ := x; exact ⟨_, e⟩
  | tup xs => obtain ⟨_, _, _, p⟩ := x; obtain ⟨o, e, _⟩ := p; exact ⟨_, e⟩
  | dK kvs => obtain ⟨_, _, _, _, o, _, _, e, _⟩ := x; exact ⟨_, e⟩
  | dT kvs => obtain ⟨_, _, _, _, o, _, _, e, _⟩ := x; exact ⟨_, e⟩
  | set S n => obtain ⟨o, _, _, _, e, _⟩ := x; exact ⟨_, e⟩
  | ins C dx fs => obtain ⟨_, _, _, e, _⟩ := x; exact ⟨_, e⟩
  | own y => obtain ⟨_, e⟩ := x; exact ⟨_, e⟩
  | xd fs => obtain ⟨_, ⟨_, _, _, e, _⟩, _⟩ := x; exact ⟨_, e⟩
  | rng lo hi => obtain ⟨_, _, _, e⟩ := x; exact ⟨_, e⟩
  | frz ob u => obtain ⟨e, _⟩ := x; exact ⟨_, e⟩
  | tbl ps => exact ⟨_, (show h.get? a = some _ from x)⟩
  | met f y => exact ⟨_, (show h.get? a = some _ from x)⟩
  | ext φ => obtain ⟨_, ⟨_, e⟩, _⟩ := x; exact ⟨_, e⟩
end
structure Fly (outer : List Env) (P : Program) (w : World) (H : Hp) (s : Shared) (C ea : Addr) (H' : Hp) (s' : Shared) : Prop where
  os : s'.os = s.os
  bare : AllBare s'.gens
  un : Un (frs outer) [] H H' s.heap s'.heap
  hok : HOk P w H' s'.heap
  fl : ∃ (B : Heap) (a0 : Value), Heap.FlyingW B outer ea (.ref C) a0 s'.heap ∧ (∀ b o, s.heap.get? b = some o → b ∉ frs outer → ∃ o', B.get? b = some o') ∧ ∀ b u, H' b = some u → ∃ o', B.get? b = some o'
  nt : H' ea = none
def CXE (P : Program) (w : World) : CXT := fun outer H s E e s' => ∃ (ea C : Addr) (H' : Hp), e = .ref ea ∧ Fly outer P w H s C ea H' s' ∧ E (.ref C) none H'
theorem frs_cons {env : Env} {outer : List Env} {L : Addr} (h : env.frame = some L) : frs (env :: outer) = L :: frs outer := by
  unfold frs
  rw [List.filterMap_cons, h]
section
variable {P : Program} {w : World} {K : PySem.W.Frag} {mg : Str → Option Value} {base : Heap} {N : List Str} {qual : Str} {scope : Scope} {f : Addr} {cd : Value} {A : Around} {outer : List Env} {s : Shared} {H : Hp} {E : XK}
theorem leaves_made {pins : List (Addr × Obj)} {σ : St} {H' : Hp} {s1 : Shared} {h2 : Heap} {ea C : Addr} {args : List Value} {t' : Nat}
    (I : Inv (cxOf (CXE P w) P w K mg base N qual scope f cd A outer s H E) pins σ H' s1) (hx : Heap.MadeExcOf s1.heap h2 ea (.ref C) args) (q : E (.ref C) none H') :
    (cxOf (CXE P w) P w K mg base N qual scope f cd A outer s H E).xe (.ref ea) { s1 with heap := h2, toks := t' } := by
  generalize hX : cxOf (CXE P w) P w K mg base N qual scope f cd A outer s H E = X at I
  have eP : X.prog = P := by rw [← hX]; rfl
  have eW : X.w = w := by rw [← hX]; rfl
  have eS : X.stack = X.env :: outer := by rw [← hX]; rfl
  have eL : X.env.frame = some X.env.locals := by rw [← hX]; rfl
  have eF : X.fs = frs outer := by rw [← hX]; rfl
  have e0 : X.s₀ = s := by rw [← hX]; rfl
  have eH : X.H₀ = H := by rw [← hX]; rfl
  have eX : X.ex = [] := by rw [← hX]; rfl
  have eE : X.xe = fun e s' => wpAny (model P w) X.A (leaving X.env e) (fun _ s'' => CXE P w outer H s E e s'') (fun e' s'' => CXE P w outer H s E e' s'') s' := by rw [← hX]; rfl
  rw [eE]
  have stk : frs X.stack = X.env.locals :: frs outer := by rw [eS]; exact frs_cons eL
  have hfr : X.A.frames = some (X.env :: outer) := by rw [I.ok.frames, eS]
  have hin : ∀ env ∈ X.stack, ∀ b, env.frame = some b → b ∈ frs X.stack := fun env he b hb => List.mem_filterMap.mpr ⟨env, he, hb⟩
  have hl := PySem.W.funFrames_hide I.stack hin
  have Lnew : ∀ b o, s.heap.get? b = some o → b ≠ X.env.locals := fun b o e z => by
    have h1 := Heap.lt_size e
    have h2 := I.ok.above
    rw [e0, ← z] at h2
    exact absurd (Nat.lt_of_lt_of_le h1 h2) (Nat.lt_irrefl _)
  have nofr : ∀ b o, s.heap.get? b = some o → b ∉ frs outer → b ∉ frs X.stack := fun b o e hb z => by
    rw [stk] at z
    rcases List.mem_cons.mp z with z | z
    · exact Lnew b o e z
    · exact hb z
  have trk : ∀ b u, H' b = some u → b ∉ frs X.stack := fun b u e z => by
    rw [I.stkFree b z] at e
    cases e
  have Bs := I.base
  rw [eF, eX, eH, e0] at Bs
  rw [eS] at hl
  refine wpAny_leaves_madeW (base := PySem.W.hideAll s1.heap (frs X.stack)) (h := s1.heap) hfr eL (fun b o e => PySem.W.of_hideAll _ e) (by rw [eS]; exact hl) (s := { s1 with heap := h2, toks := t' }) hx fun h' t fly tup bt up => ?_
  have kp : ∀ b o, s1.heap.get? b = some o → b ∉ frs X.stack → h'.get? b = some o := fun b o e hb => fly.1 b o (PySem.W.hideAll_get _ e hb)
  have upf : ∀ b o, s1.heap.get? b = some o → b ∈ frs X.stack → ∃ sl, h'.get? b = some { o with slots := sl } := fun b o e hb => by
    obtain ⟨_, o', ho', nd⟩ := I.stack.mem hb
    rw [e] at ho'
    cases ho'
    exact up b o (hx.keeps b o e) nd
  refine ⟨ea, C, H', rfl, ⟨?_, I.bare, ⟨fun b o e n hb hx' => ?_, fun b o e n hb hx' => ?_, fun b o e n hx' => Bs.free b o e n hx', fun b o e hx' => ?_, Bs.tups, Bs.frzs, Bs.tbls⟩, ?_, ⟨_, _, fly, fun b o e hb => ?_, fun b u e => ?_⟩, ?_⟩, q⟩
  · show s1.os = s.os
    rw [I.os, e0]
  · exact kp b o (Bs.keep b o e n hb hx') (nofr b o e hb)
  · obtain ⟨sl, e1⟩ := Bs.slot b o e n hb hx'
    obtain ⟨sl2, e2⟩ := upf b _ e1 (by rw [stk]; exact List.mem_cons_of_mem _ hb)
    exact ⟨sl2, e2⟩
  · obtain ⟨o', e1⟩ := Bs.there b o e hx'
    by_cases hb : b ∈ frs X.stack
    · obtain ⟨sl, e2⟩ := upf b o' e1 hb
      exact ⟨_, e2⟩
    · exact ⟨o', kp b o' e1 hb⟩
  · intro a o e
    have hok := I.hok
    rw [eP, eW] at hok
    refine (hok a o e).stay (fun b u hb e' => kp b u e' ?_) (fun b z => z) fun b xs z => z
    rcases hb with rfl | hb
    · exact trk b o e
    · exact trk b _ hb
  · obtain ⟨o', e1⟩ := Bs.there b o e (by simp)
    exact ⟨o', PySem.W.hideAll_get _ e1 (nofr b o e hb)⟩
  · obtain ⟨o', e1⟩ : ∃ o', s1.heap.get? b = some o' := (I.hok b u e).there
    exact ⟨o', PySem.W.hideAll_get _ e1 (trk b u e)⟩
  · cases e : H' ea with
    | none => rfl
    | some u =>
      obtain ⟨q, h1⟩ := (I.hok ea u e).there
      rw [hx.new] at h1
      cases h1
end
end L2
namespace PySem.W
open PySem PySem.Spec PySem.Calls PyProof.Rows Builtin Builtin.ObjectAttr Builtin.Getset_descriptor
def ExAt (x D : Addr) (h : Heap) : Prop := ∃ o, h.get? x = some o ∧ o.cls = .ref D
section
variable {prog : Program} {w : World} {A : Around} {E : Value → Shared → Prop} {s : Shared} {K : Frag} {x D : Addr}
theorem ExAt.type {M : Model} {h : Heap} (I : ExAt x D h) : Looks M h (typeOf (.ref x)) (.ref D) := by
  obtain ⟨o, e, c⟩ := I
  exact c ▸ (Looks.ld e).andThen .now
theorem looks_find_data {M : Model} {h : Heap} {a g : Value} {name : Str} (X : K.In h) (ha : findIn K (.ref D) name = some (some a)) (hn : specialIn K a "__get__" = some (some g)) (ht : takesIn K a = some true) : Looks M h (find (.ref x) (.ref D) name) (.bind g a) := by
  have L1 := looks_findIn (M := M) X ha
  have L2 : Looks M h (getOf (some a)) (some g) := looks_specialIn X hn
  have L3 := looks_takesIn (M := M) X ht
  exact L1.andThen (L2.andThen ((show Looks M h (dataDescriptor? (some a) (some g)) (some (g, a)) from L3.andThen .now).andThen (Looks.tag .now)))
theorem class_get_exc {R : Result → Shared → Prop} {tp : Value} (X : K.In s.heap) (I : ExAt x D s.heap) (hm : mroIn K D (.type "object") = some true)
    (h : R (.ok (.ret (.ref D))) s) : codeAny (model prog w) A (.call (.builtin "getset_descriptor.__get__") ⟨[.builtin "object.__class__", .ref x, tp], []⟩) R s := by
  obtain ⟨hh, g, dr, t, os⟩ := s
  have L0 := I.type (M := model prog w)
  have L1 := looks_mroIn (M := model prog w) X hm
  refine codeAny_call_builtin KF.slot_gs.plain KF.entry_gs (KF.slot_gs.check _ _ _ _ _ _ _ _ KF.type_class (KF.args_gs _ _ _) ?_)
  unfold Builtin.«getset_descriptor.__get__» descrGet
  rw [dga_obj]
  refine wpAny_bind (wpAny_pure ?_)
  unfold descrGetter descrCheckInstance descrNameAndClass isInstance
  simp only [KF.owner_class]
  repeat lk
  refine ⟨Code.quiet_builtin _ (by decide +kernel), codeAny_builtin KF.entry_class ?_⟩
  unfold Builtin.«object.__class__» shownTypeOf
  repeat lk
  exact h
theorem check_ga_exc {M : Model} {nameV : Value} {Q : Unit → Shared → Prop} (hb : mroIn K D (.type "BaseException") = some true) (X : K.In s.heap) (I : ExAt x D s.heap) (hq : Q () s) :
    wpAny M A (checkBuiltinCall "BaseException.__getattribute__" ⟨[.ref x, nameV], []⟩) Q E s := by
  have hk : builtinKind "BaseException.__getattribute__" = some .slot := by decide +kernel
  have hsplit : splitId "BaseException.__getattribute__" = some ("BaseException", "__getattribute__") := by decide +kernel
  obtain ⟨hh, g, d, t, os⟩ := s
  have L0 := I.type (M := M)
  have L4 := looks_mroIn (M := M) X hb
  have LI : Looks M hh (isInstance (.ref x) (.type "BaseException")) true := L0.andThen L4
  have ha := F.args_bexc_ga (.ref x) nameV
  simp only [checkBuiltinCall, hk, hsplit]
  refine wpAny_bind (LI.at ?_)
  repeat (any_goals (first | assumption | wp_step))
structure ExcCls (K : Frag) (D : Addr) : Prop where
  ga : findIn K (.ref D) "__getattribute__" = some (some (.builtin "BaseException.__getattribute__"))
  gt : findIn K (.ref D) "__getattr__" = some none
  ca : findIn K (.ref D) "__class__" = some (some (.builtin "object.__class__"))
  cg : specialIn K (.builtin "object.__class__") "__get__" = some (some (.builtin "getset_descriptor.__get__"))
  ct : takesIn K (.builtin "object.__class__") = some true
  mo : mroIn K D (.type "object") = some true
  mb : mroIn K D (.type "BaseException") = some true
theorem exc_class {Q : Option Value → Shared → Prop} (c : ExcCls K D) (X : K.In s.heap) (I : ExAt x D s.heap) (h : Q (some (.ref D)) { s with toks := s.toks + 1 }) : wpAny (model prog w) A (getAttr? (.ref x) "__class__") Q E s := by
  obtain ⟨hh, g, d, t, os⟩ := s
  have L0 := I.type (M := model prog w)
  have L1 := looks_findIn (M := model prog w) X c.ga
  have L2 := looks_findIn (M := model prog w) X c.gt
  have L3 := looks_find_data (x := x) (M := model prog w) X c.ca c.cg c.ct
  have f3 := F.excAttr_ValueError.ga.bind (.ref x)
  unfold getAttr? getAttrBy? getAttrBy
  refine wpAny_bind (wpAny_mkText (wpAny_bind (wpAny_attempt (wpAny_holding (wpAny_bind (L0.at (wpAny_bind (L1.at ?_))))))))
  have hx1 : (onTheHeap (Value.ref D) && Value.builtin "BaseException.__getattribute__" == Value.builtin "object.__getattribute__") = false := by
    have : (Value.builtin "BaseException.__getattribute__" == Value.builtin "object.__getattribute__") = false := by decide +kernel
    rw [this]; rfl
  dsimp only
  rw [if_neg (by rw [hx1]; decide)]
  unfold getAttrByItsOwn hookBefore
  rw [if_pos (show onTheHeap (Value.ref D) = true from rfl)]
  refine wpAny_bind (L2.at ?_)
  refine wpAny_bind (wpAny_attempt (wpAny_holding ?_))
  unfold callGetattribute
  rw [if_neg (by decide)]
  unfold boundAndCalled
  rw [f3]
  refine wpAny_bind (wpAny_pure ?_)
  dsimp only
  refine wpAny_call (codeAny_call_builtin F.excAttr_ValueError.ga.plain F.entry_bexc_ga (check_ga_exc (s := ⟨hh, g, d, t + 1, os⟩) c.mb X I ?_))
  unfold Builtin.«object.__getattribute__»
  repeat (first | with_reducible refine wpAny_call (class_get_exc (s := ⟨hh, g, d, t + 1, os⟩) X I c.mo ?_) | lk | wp_step)
  exact h
theorem ExcCls.isType {M : Model} {h : Heap} (c : ExcCls K D) (X : K.In h) : Looks M h (isType (.ref D)) true := by
  have e := c.mo
  unfold mroIn at e
  obtain ⟨cd, hcD, _⟩ := Option.bind_eq_some_iff.mp e
  unfold clsIn at hcD
  split at hcD
  · rename_i c' d' cd' sl' ho
    intro A' Q' E' s' k q
    unfold PySem.isType loadHead
    exact wpAny_bind (wpAny_loadPart (k _ _ (X _ _ ho)) (wpAny_pure q))
  · cases hcD
theorem kitx_exc (c : ExcCls K D) : KitX K (.ref x) (.ref D) (ExAt x D) where
  ty := fun _ _ _ I => I.type
  it := fun _ _ X _ => c.isType X
  ne := fun h tp dd its n sl X htp => by
    have e := c.mo
    unfold mroIn at e
    obtain ⟨cdD, hcD, _⟩ := Option.bind_eq_some_iff.mp e
    refine Bool.eq_false_iff.mpr fun q => ?_
    have e : D = tp := Value.ref.inj (beq_iff_eq.mp q)
    subst e
    unfold clsIn at hcD
    split at hcD
    · rename_i c' d' cd' sl' ho
      have z := (X _ _ ho).symm.trans htp
      cases z
    · cases hcD
  ca := fun X I k => exc_class c X I k
theorem excMatches_own {M : Model} {C : Addr} {Q : Bool → Shared → Prop} (c : ExcCls K C) (ht : typeIn K (.ref C) = some (.type "type")) (hs : mroIn K D (.ref C) = some true) (X : K.In s.heap) (I : ExAt x D s.heap) (hq : Q true s) :
    wpAny M A (excMatches (.ref x) (.ref C)) Q E s := by
  obtain ⟨hh, g, d, t, os⟩ := s
  have L0 := I.type (M := M)
  have L1 := c.isType (M := M) X
  have L2 := looks_mroIn (M := M) X c.mb
  have L3 := looks_mroIn (M := M) X hs
  have L4 := looks_typeIn (M := M) X ht
  have f := tc_notTuple
  unfold excMatches
  repeat (first | lk | wp_step)
  exact hq
end
end PySem.W
namespace L2
open PySem PySem.Spec PyProof.Rows
theorem call_isx {X : Cx} {ea D : Addr} {oe : Obj} (hp : (ea, oe) ∈ X.pn) (hd : oe.cls = .ref D) (c : PySem.W.ExcCls X.K D) :
    CallR X (.builtin "isinstance") (fun xs H Q => ∃ cv b, xs = [.ref ea, cv] ∧ (∃ t, (∀ u, RelV cv u → u = t) ∧ PySem.W.kitOne X.K (.ref D) t = some b) ∧ Q (.bl b) H) := by
  intro pins s σ H xs us Q I r h
  obtain ⟨cv, b, rfl, ⟨t, hu, e⟩, q⟩ := h
  obtain ⟨u, w', rfl, rx, rt⟩ := vals2 r
  cases rx
  cases hu _ rt
  exact PySem.W.kia_one (PySem.W.kitx_exc c) I.kIn ⟨oe, (I.pin (ea, oe) (List.mem_append_left _ hp)).1, hd⟩ e (fun z => nomatch z) fun tk => ⟨.bl b, H, I.tok _, rfl, q⟩
def PStr (X : Cx) (e : Expr) (n : Nat) (p : St → Hp → Prop) : Prop := ∀ (pins : List (Addr × Obj)) (s : Shared) (σ : St) (H : Hp), Inv X pins σ H s → p σ H →
  wpAny (model X.prog X.w) X.A (eval e X.env) (fun u s' => ∃ x t, u = Value.str x t ∧ x.length ≤ n ∧ Inv X pins σ H s') X.xe s
def PStrs (X : Cx) (es : List Expr) (n : Nat) (p : St → Hp → Prop) : Prop := ∀ (pins : List (Addr × Obj)) (s : Shared) (σ : St) (H : Hp) (acc : Str) (k : Nat), Inv X pins σ H s → p σ H → acc.length ≤ k → k + n ≤ sizeLine →
  Joins (model X.prog X.w) X.A X.xe (evalEach es X.env) acc (fun out s' => out.length ≤ k + n ∧ Inv X pins σ H s') s
section
variable {X : Cx} {e : Expr} {es : List Expr} {n m : Nat} {p q : St → Hp → Prop} {pos : Pos}
theorem pstr_const {x : Str} {j : Nat} (hx : x.length ≤ n) : PStr X (.Constant (.str x) j pos) n (fun _ _ => True) := fun pins s σ H I _ =>
  wpAny_Constant_str ⟨x, _, rfl, hx, I.tok _⟩
theorem pstrs_nil : PStrs X [] 0 (fun _ _ => True) := fun pins s σ H acc k I _ ha _ => ⟨by simpa using ha, I⟩
theorem pstrs_cons (h : PStr X e n p) (hr : PStrs X es m q) : PStrs X (e :: es) (n + m) (fun σ H => p σ H ∧ q σ H) := fun pins s σ H acc k I ⟨hp, hq⟩ ha hk => by
  show wpAny _ _ (eval e X.env) _ _ s
  refine thn (h pins s σ H I hp) fun u s1 ⟨x, t, e1, hx, I1⟩ => ⟨x, t, e1, ?_, ?_⟩
  · rw [strLen_append]; omega
  · have := hr pins s1 σ H (acc ++ x) (k + n) I1 hq (by rw [strLen_append]; omega) (by omega)
    rw [Nat.add_assoc] at this
    exact this
theorem joins_mono {M : Model} {A : Around} {E : Value → Shared → Prop} : ∀ {parts : List (Sem Value)} {acc : Str} {Q Q' : Str → Shared → Prop} {s : Shared}, Joins M A E parts acc Q s → (∀ o s', Q o s' → Q' o s') → Joins M A E parts acc Q' s
  | [], _, _, _, _, h, hq => hq _ _ h
  | _ :: _, _, _, _, _, h, hq => thn h fun _ _ ⟨y, t, e, hz, hr⟩ => ⟨y, t, e, hz, joins_mono hr hq⟩
theorem pe_fstr {e2 : Expr} (h : PStrs X (e :: e2 :: es) n p) (hn : n ≤ sizeLine) : PE X (.JoinedStr (e :: e2 :: es) pos) (fun σ H Q => p σ H ∧ ∀ x : Str, x.length ≤ n → Q (.str x) H) := by
  intro pins s σ H Q I ⟨hp, hq⟩
  refine wpAny_JoinedStr ?_
  have := h pins s σ H Str.empty 0 I hp (Nat.le_refl _) (by omega)
  refine joins_mono this fun out s' ⟨h1, I1⟩ => ⟨by omega, .str out, H, I1.tok _, ⟨_, rfl⟩, hq out (by omega)⟩
end
structure Exc (K : PySem.W.Frag) (C : Addr) : Prop where
  ex : PySem.W.excIn K C [.type "ValueError", .type "Exception", .type "BaseException", .type "object"] "ValueError.__new__" = true
section
variable {P : Program} {w : World} {K : PySem.W.Frag} {mg : Str → Option Value} {base : Heap} {N : List Str} {qual : Str} {scope : Scope} {f : Addr} {cd : Value} {A : Around} {outer : List Env} {s₀ : Shared} {H₀ : Hp} {E : XK}
theorem Exc.obj {K : PySem.W.Frag} {C : Addr} {h₀ : Heap} (X : K.In h₀) (c : Exc K C) : ∃ bm N nm q bs hdct sn sub ab col dd k0 k1 k2 k3 k5 mN, h₀.get? C = some (excClassObj nm q C N bs bm hdct sn sub ab col dd k0 k1 k2 k3 k5 "ValueError.__new__") ∧ h₀.Ns N mN ∧ mN "__init__" = none ∧
    OwnTail h₀ [.type "ValueError", .type "Exception", .type "BaseException", .type "object"] bm := by
  have q := c.ex
  unfold PySem.W.excIn at q
  split at q
  · rename_i dd cd sl ho
    split at q
    · rename_i C' bm k0 k1 k2 k3 n k5 hm hs
      simp only [Bool.and_eq_true, beq_iff_eq, Bool.not_eq_true'] at q
      obtain ⟨⟨⟨⟨⟨rfl, rfl⟩, hdel⟩, ht⟩, hok⟩, hni⟩ := q
      obtain ⟨nm, bs, mro, ns, qn, hd, sn, sub, ab, col, del⟩ := cd
      dsimp only at hm hdel hok hni
      subst hm hdel
      have hsl : sl = #[k0, k1, k2, k3, some (.builtin "ValueError.__new__"), k5] := by
        obtain ⟨l⟩ := sl
        simp only at hs
        rw [hs]
      subst hsl
      exact ⟨bm, ns, nm, qn, bs, hd, sn, sub, ab, col, dd, k0, k1, k2, k3, k5, _, X _ _ ho, .of_isNs (PySem.W.isNs_of_in X hok), PySem.W.nsMap_none_of_in X hok hni, PySem.W.tail_of_in X ht⟩
    · cases q
  · cases q
theorem ps_raise {x : Str} {C : Addr} {np cpos pos : Pos} {e : Expr} {es : List Expr} {t : TA} (c : Exc K C) (hg : Gl (cxOf (CXE P w) P w K mg base N qual scope f cd A outer s₀ H₀ E) x) (hm : mg x = some (.ref C))
    (ha : PA (cxOf (CXE P w) P w K mg base N qual scope f cd A outer s₀ H₀ E) (e :: es) t) (hdb : (x == ("__debug__" : Str)) = false := by decide)
    (he : starEach (e :: es) (cxOf (CXE P w) P w K mg base N qual scope f cd A outer s₀ H₀ E).env = (false, eval e (cxOf (CXE P w) P w K mg base N qual scope f cd A outer s₀ H₀ E).env) :: starEach es (cxOf (CXE P w) P w K mg base N qual scope f cd A outer s₀ H₀ E).env := by rfl)
    (hpl : (backTo cpos (starEach es (cxOf (CXE P w) P w K mg base N qual scope f cd A outer s₀ H₀ E).env)).any (·.1) = false := by rfl) :
    PS (cxOf (CXE P w) P w K mg base N qual scope f cd A outer s₀ H₀ E) (.Raise (some (.Call (.Name x np) (e :: es) [] cpos)) none pos) (fun _ σ H => t σ H fun vs H' => vs.length ≤ sizeLine ∧ E (.ref C) none H') := by
  intro pins s σ H D I h
  obtain ⟨bm, Na, nm, q, bs, hdct, sn, sub, ab, col, dd, k0, k1, k2, k3, k5, mN, hC, hN, hni, T⟩ := c.obj I.ok.mod.kin
  refine wpAny_Raise_call_subU (Fn := F.excBase_ValueError) (F := F.excBase_ValueError) (mN := mN) (C := C) (nm := nm) (q := q) (N := Na) (bs := bs) (bm := bm) (hdct := hdct) (sn := sn) (sub := sub) (ab := ab) (col := col) (dd := dd) (k0 := k0) (k1 := k1) (k2 := k2) (k3 := k3) (k5 := k5) (by decide +kernel)
    (T.hasType (by decide +kernel)) (I.ok.hd rfl) ?_ hni (ld_glob I hg hm ⟨rfl, ?_⟩ hdb)
  · rw [he]
    show (false || (backTo cpos (starEach es _)).any (·.1)) = false
    rw [hpl]; rfl
  · have hx := ha cpos pins s σ H _ I h
    rw [he] at hx ⊢
    refine Calls.evalArgs_plain (thn hx fun us s1 ⟨vs, H1, I1, r, hl, q⟩ => ⟨rfl, by rw [← r.length]; exact hl, I1.bk _ _ hC, hN.keeps I1.bk, T.keeps I1.bk, fun h' ea hme => ?_⟩)
    have := leaves_made (t' := s1.toks) I1 hme q
    exact this
end
end L2
namespace L2
open PySem PySem.Spec PyProof.Rows
section
variable {X : Cx} {pins : List (Addr × Obj)} {σ : St} {H H' : Hp} {s s' : Shared} {B h' : Heap}
theorem fly_inv (I : Inv X pins σ H s) (os : s'.os = s.os) (bare : AllBare s'.gens) (un : Un (frs X.stack) [] H H' s.heap s'.heap) (hok : HOk X.prog X.w H' s'.heap)
    (dB : ∀ b o, s.heap.get? b = some o → b ∉ frs X.stack → ∃ o', B.get? b = some o') (tB : ∀ b u, H' b = some u → ∃ o', B.get? b = some o') (sB : B.StaysIn s'.heap) (st : B.StaysIn h') (sm : s'.heap.UpToSlots h') :
    Inv X pins σ H' { s' with heap := h' } := by
  have kB : ∀ b o o', B.get? b = some o' → s'.heap.get? b = some o → h'.get? b = some o := fun b o o' e1 e2 => by
    have e3 := sB b o' e1
    rw [e2] at e3
    cases e3
    exact st b _ e1
  have sl : ∀ b o, s.heap.get? b = some o → H b = none → b ∈ frs X.stack → ∃ sl, h'.get? b = some { o with slots := sl } := fun b o e n hb => by
    obtain ⟨sl, e1⟩ := un.slot b o e n hb (by simp)
    obtain ⟨_, o', ho', nd⟩ := I.stack.mem hb
    rw [e] at ho'
    cases ho'
    obtain ⟨sl2, e2⟩ := sm b _ e1 nd
    exact ⟨sl2, e2⟩
  have un' : Un (frs X.stack) [] H H' s.heap h' := by
    refine ⟨fun b o e n hb _ => ?_, fun b o e n hb _ => sl b o e n hb, un.free, fun b o e _ => ?_, un.tups, un.frzs, un.tbls⟩
    · obtain ⟨o', e1⟩ := dB b o e hb
      exact kB b o o' e1 (un.keep b o e n hb (by simp))
    · by_cases hb : b ∈ frs X.stack
      · obtain ⟨sl, e1⟩ := sl b o e (I.stkFree b hb) hb
        exact ⟨_, e1⟩
      · obtain ⟨o', e1⟩ := dB b o e hb
        exact ⟨o', st b o' e1⟩
  have hok' : HOk X.prog X.w H' h' := fun a o e => by
    refine (hok a o e).stay (fun b u hb e' => ?_) (fun _ q => q) fun _ _ q => q
    rcases hb with rfl | hb
    · obtain ⟨o', e1⟩ := tB b o e
      exact kB b u o' e1 e'
    · obtain ⟨o', e1⟩ := tB b _ hb
      exact kB b u o' e1 e'
  exact I.call' (s' := { s' with heap := h' }) (ch := []) os un' hok' bare fun b z => absurd z (by simp)
abbrev Cx.mrk (X : Cx) (ea : Addr) : Cx := { X with A := X.A.mark (some (.ref ea)), calm := false, xe := fun _ _ => False }
abbrev Cx.catch (X : Cx) (ea : Addr) (oe : Obj) : Cx := { X with A := X.A.mark (some (.ref ea)), calm := false, pn := (ea, oe) :: X.pn, xe := fun _ _ => False }
theorem Cx.Ok.mrk (ok : X.Ok) (ea : Addr) : (X.mrk ea).Ok :=
  ⟨ok.mod, ok.kind, ok.glob, ok.blt, ok.above, ok.inj, ok.has, ok.cab, (fun z => nomatch z), ok.frames, ok.stk, ok.exf, ok.bs, ok.bsz, ok.noex, ok.exfs, ok.funs, ok.frf⟩
theorem Inv.mrk (I : Inv X pins σ H s) (ea : Addr) : Inv (X.mrk ea) pins σ H s := ⟨I.ok.mrk ea, I.os, I.bare, I.base, I.loc, I.cell, I.free, I.freeC, I.pin, I.hok, I.len⟩
theorem Cx.Ok.catch (ok : X.Ok) (ea : Addr) (oe : Obj) : (X.catch ea oe).Ok :=
  ⟨ok.mod, ok.kind, ok.glob, ok.blt, ok.above, ok.inj, ok.has, ok.cab, (fun z => nomatch z), ok.frames, ok.stk, ok.exf, ok.bs, ok.bsz, ok.noex, ok.exfs, ok.funs, ok.frf⟩
theorem Inv.catch {ea : Addr} {oe : Obj} (I : Inv X pins σ H s) (he : s.heap.get? ea = some oe ∧ H ea = none ∧ ea ≠ X.env.locals ∧ ea ∉ X.fs ∧ ∀ v, oe.data ≠ .cell v) : Inv (X.catch ea oe) pins σ H s :=
  ⟨I.ok.catch ea oe, I.os, I.bare, I.base, I.loc, I.cell, I.free, I.freeC, fun p hp => by
    rcases List.mem_cons.mp (show p ∈ (ea, oe) :: (X.pn ++ pins) from hp) with rfl | hp
    · exact he
    · exact I.pin p hp, I.hok, I.len⟩
theorem Inv.uncatch {ea : Addr} {oe : Obj} (ok : X.Ok) (I : Inv (X.catch ea oe) pins σ H s) : Inv X pins σ H s :=
  ⟨ok, I.os, I.bare, I.base, I.loc, I.cell, I.free, I.freeC, fun p hp => I.pin p (show p ∈ (ea, oe) :: (X.pn ++ pins) from List.mem_cons_of_mem _ hp), I.hok, I.len⟩
theorem gone_ok {M : Model} {A : Around} {E : Value → Shared → Prop} {i : Nat} {x : Str} {pos : Pos} {Q : Unit → Shared → Prop} (I : Inv X pins σ H s) (hN : X.N.Nodup) (hi : X.N[i]? = some x) (hk : X.env.scope.names.lookup x = some .local)
    (h : ∀ s', Inv X pins (σ.set i none) H s' → Q () s') : wpAny M A (do bindName X.env x .none; unbindBehindTheSuite X.env x pos) Q E s := by
  obtain ⟨m, hn, hl⟩ := id I.loc
  have hcls : (X.env.scope.kind == .class || (X.env.scope.kind == .module && X.env.locals != X.env.globals)) = false := by rw [I.ok.kind]; rfl
  have hiσ : i < σ.length := by rw [I.len]; exact (List.getElem?_eq_some_iff.mp hi).1
  have cne := I.cne
  refine wpAny_nameGoes_keeps hk hn hcls fun h' v hn' hs => ?_
  obtain ⟨oL, _, _, hoL, _⟩ := id hn
  have tracked : HOk X.prog X.w H h' := fun b ob e => by
    refine (I.hok b ob e).stay (fun c w' hc q => (hs.2 c ?_).trans q) (fun _ q => q) fun _ _ q => q
    rintro rfl
    rcases hc with hc | hc
    · rw [← hc, I.free] at e; cases e
    · rw [I.free] at hc; cases hc
  refine h _ ⟨I.ok, I.os, I.bare, ⟨fun b o e n hb hx => ?_, fun b o e n hb hx => ?_, I.base.free, fun b o e hx => ?_, I.base.tups, I.base.frzs, I.base.tbls⟩, ⟨_, hn', fun j y v' e1 e2 e3 => ?_⟩, fun y c e => ?_, I.free, I.freeC, fun p hp => ?_, tracked, by simpa using I.len⟩
  · exact (hs.2 b (Nat.ne_of_lt (Nat.lt_of_lt_of_le (Heap.lt_size e) I.ok.above))).trans (I.base.keep b o e n hb hx)
  · obtain ⟨sl, e1⟩ := I.base.slot b o e n hb hx
    exact ⟨sl, (hs.2 b (Nat.ne_of_lt (Nat.lt_of_lt_of_le (Heap.lt_size e) I.ok.above))).trans e1⟩
  · obtain ⟨o', e1⟩ := I.base.there b o e hx
    exact ⟨o', (hs.2 b (Nat.ne_of_lt (Nat.lt_of_lt_of_le (Heap.lt_size e) I.ok.above))).trans e1⟩
  · by_cases hj : j = i
    · subst hj
      rw [List.getElem?_set_self hiσ] at e2
      cases e2
    · rw [List.getElem?_set_ne (Ne.symm hj)] at e2
      obtain ⟨u', r', q⟩ := hl j y v' e1 e2 e3
      refine ⟨u', r', ?_⟩
      rcases q with ⟨k, e⟩ | ⟨k, c, e, z⟩
      · refine .inl ⟨k, ?_⟩
        have : y ≠ x := fun e => hj (nodup_ix hN e1 (e ▸ hi))
        simp [this, e]
      · exact .inr ⟨k, c, e, z.sameBut hs (cne y c e)⟩
  · obtain ⟨w', z⟩ := I.cell y c e
    exact ⟨w', z.sameBut hs (cne y c e)⟩
  · obtain ⟨e, n, ne, nf, d⟩ := I.pin p hp
    exact ⟨(hs.2 p.1 ne).trans e, n, ne, nf, d⟩
end
def PX (CX : CXT) (X : Cx) (e : Expr) (tx : St → Hp → VK → XK → Prop) : Prop :=
  ∀ (pins : List (Addr × Obj)) (s : Shared) (σ : St) (H : Hp) (Q : VK) (E : XK) (EX : Value → Shared → Prop), Inv X pins σ H s → tx σ H Q E →
    (∀ (H2 : Hp) (s2 : Shared) (ev : Value) (s' : Shared), Inv X pins σ H2 s2 → CX X.stack H2 s2 E ev s' → EX ev s') → wpAny (model X.prog X.w) X.A (eval e X.env) (EP X pins σ Q) EX s
def txCall (sp : Sp) (dvs : List V) (t : TA) : St → Hp → VK → XK → Prop := fun σ H Q E => tCall sp dvs E t σ H Q
section
variable {X : Cx} {CX : CXT} {k : Nat} {f C : Addr} {fd : FuncData} {ps : List Str} {sp : Sp} {dvs : List V} {ds : List Value} {x m : Str} {p pos apos : Pos} {e o : Expr} {es : List Expr} {ta : TE} {t : TA}
theorem px_call (F : FnOk X.prog X.w X.K X.mg X.base CX k f fd ps sp) (hr : Room k X.A) (hg : Gl X x) (hm : X.mg x = some (.ref f)) (hk : PySem.W.keepIn X.K (.ref f) = true) (hb : Binds X.K fd ps ds) (hd : Vals dvs ds)
    (ha : PA X.nox (e :: es) t) (hdb : (x == ("__debug__" : Str)) = false := by decide) (he : starEach (e :: es) X.env = (false, eval e X.env) :: starEach es X.env := by rfl) (hpl : (backTo pos (starEach es X.env)).any (·.1) = false := by rfl) :
    PX CX X (.Call (.Name x p) (e :: es) [] pos) (txCall sp dvs t) := by
  intro pins s σ H Q E EX I h hx
  refine wpAny_Call_Name_kw (ld_glob I hg hm ?_ hdb)
  refine PySem.W.callWith_K (h₀ := X.base) I.ok.mod.kin hk (wpAny_mono (ha pos pins s σ H _ (I.wish _) h) (fun us s1 ⟨vs, H1, I1, r, q⟩ => ⟨I1.kIn, ?_⟩) fun _ _ z => z.elim) he hpl
  have I1 := I1.unwish
  have r2 : Vals (vs ++ dvs) (us ++ ds) := r.append hd
  have hl : (us ++ ds).length = ps.length := by rw [← r2.length]; exact F.len _ _ _ _ q
  refine wpAny_call (codeAny_mono (F.run X.A X.stack s1 H1 ⟨us, []⟩ (us ++ ds) (vs ++ dvs) Q E hr I1.env0 (hb s1 us I1.kIn hl) r2 q) fun r s' hq => ?_)
  cases r with
  | error e => exact hx _ _ e s' I1 hq
  | ok fl =>
    cases fl with
    | ret u => exact I1.after hq
    | next => exact False.elim hq
    | brk => exact False.elim hq
    | cont => exact False.elim hq
end
end L2
namespace L2
open PySem PySem.Spec PyProof.Rows
def Ends.gone (D : Ends) (i : Nat) : Ends := { nx := fun σ H => D.nx (σ.set i none) H, rt := D.rt, bk := fun σ H => D.bk (σ.set i none) H, ct := fun σ H => D.ct (σ.set i none) H }
def tTry (X : Cx) (tx : St → Hp → VK → XK → Prop) (C : Addr) (i : Nat) (suite : List Stmt) : TS := fun D σ H => tx σ H (fun _ H1 => D.nx σ H1) fun cl _ H1 => ∃ D0, cl = .ref D0 ∧ PySem.W.mroIn X.K D0 (.ref C) = some true ∧
  ∀ ea oe, H1 ea = none → oe.cls = .ref D0 → ∃ ts, PSs (X.catch ea oe) suite ts ∧ ts (D.gone i) (σ.set i (some (.ref ea))) H1
theorem ps_try {X : Cx} {ec : Expr} {k n : Str} {np epos hpos pos : Pos} {b₀ : Stmt} {suite : List Stmt} {C : Addr} {i : Nat} {tx : St → Hp → VK → XK → Prop}
    (hN : X.N.Nodup) (hi : X.N[i]? = some n) (hb : PX (CXE X.prog X.w) X ec tx) (hg : Gl X k) (hm : X.mg k = some (.ref C)) (c : PySem.W.ExcCls X.K C) (ht : PySem.W.typeIn X.K (.ref C) = some (.type "type"))
    (hlo : X.env.scope.names.lookup n = some .local := by rfl) (hst : X.stack = X.env :: X.outer := by rfl) (hfr : X.env.frame = some X.env.locals := by rfl)
    (hs : swapsWith ec none epos.line X.env = pure false := by rfl) (hdb : (k == ("__debug__" : Str)) = false := by decide) :
    PS X (.Try [.Expr ec epos] [.ExceptHandler (some (.Name k np)) (some n) (b₀ :: suite) hpos] [] [] pos) (tTry X tx C i (b₀ :: suite)) := by
  intro pins s σ H D I h
  refine wpAny_Try_except (wpAny_execs_cons (wpAny_Expr_any (thn (hb pins s σ H _ _ _ I h ?_) fun v s1 ⟨x, H1, I1, r1, q1⟩ => wpAny_execs_nil (wpAny_execs_nil ⟨σ, H1, I1, q1⟩)) I.quiet hs))
  intro H2 s2 ev s' I2 hc
  obtain ⟨ea, D0, H', rfl, fl, D0', ed, hmro, hq⟩ := hc
  cases ed
  obtain ⟨os, bare, un, hok, ⟨B, a0, hfl, dB, tB⟩, nt⟩ := fl
  have hfl' : Heap.FlyingW B (X.env :: X.outer) ea (.ref D0) a0 s'.heap := hst ▸ hfl
  have hfrm : X.A.frames = some (X.env :: X.outer) := by rw [I2.ok.frames, hst]
  refine wpAny_looks_onW hfrm hfr hfl' fun h₄ held₄ sm₄ => ?_
  refine wpAny_landsW held₄ fun h₅ fl₅ sm₅ => ?_
  have I5 : Inv X pins σ H' { s' with heap := h₅ } := fly_inv I2 os bare un hok dB tB hfl.1 fl₅.1 (sm₄.trans sm₅)
  refine wpAny_handleBy_cons (codeAny_handlers_test (ld_glob (I5.mrk ea) hg hm ?_ hdb)) (by intro q; cases q)
  refine PySem.W.excMatches_own c ht hmro I5.kIn fl₅.there (codeAny_handlers_suite_as ?_)
  refine lands_againW fl₅ fun h₆ fl₆ sm₆ => ?_
  have I6 : Inv X pins σ H' { s' with heap := h₆ } := fly_inv I2 os bare un hok dB tB hfl.1 fl₆.1 ((sm₄.trans sm₅).trans sm₆)
  obtain ⟨oe, ws, hoe, hoec, hoed, _⟩ := fl₆.first
  have neL : ea ≠ X.env.locals := fun z => by
    obtain ⟨m, ⟨o, es, ep, ho, hd, _⟩, _⟩ := I6.loc
    rw [← z] at ho
    rw [show h₆.get? ea = some oe from hoe] at ho
    cases ho
    rw [hoed] at hd
    cases hd
  have nfs : ea ∉ X.fs := fun z => by
    obtain ⟨_, o, ho, nd⟩ := I6.funs.mem z
    rw [show h₆.get? ea = some oe from hoe] at ho
    cases ho
    exact nd _ hoed
  refine store_ok2 I6 hN hi (.inl hlo) (show RelV (.ref ea) (Value.ref ea) from rfl) (fun s7 I7 ⟨a, sb, ha⟩ => ?_) (.inr hlo)
  have nea : ea ≠ a := fun z => by
    rcases ha with ha | ha
    · exact neL (z.trans ha)
    · obtain ⟨v, o, ho, hd⟩ := I6.cell n a ha
      rw [← z] at ho
      rw [show h₆.get? ea = some oe from hoe] at ho
      cases ho
      rw [hoed] at hd
      cases hd
  obtain ⟨ts, hts, q⟩ := hq ea oe nt hoec
  have I8 := I7.catch (ea := ea) (oe := oe) ⟨(sb.2 ea nea).trans hoe, nt, neL, nfs, fun v z => by rw [hoed] at z; cases z⟩
  refine wpAny_mono (hts pins s7 _ H' _ I8 q) (fun f s9 q9 => ?_) fun _ _ z => z.elim
  cases f with
  | next => obtain ⟨σ9, H9, I9, q9⟩ := q9; exact gone_ok (I9.uncatch I6.ok) hN hi hlo fun s10 I10 => ⟨_, _, I10, q9⟩
  | brk => obtain ⟨σ9, H9, I9, q9⟩ := q9; exact gone_ok (I9.uncatch I6.ok) hN hi hlo fun s10 I10 => ⟨_, _, I10, q9⟩
  | cont => obtain ⟨σ9, H9, I9, q9⟩ := q9; exact gone_ok (I9.uncatch I6.ok) hN hi hlo fun s10 I10 => ⟨_, _, I10, q9⟩
  | ret u => obtain ⟨v, σ9, H9, I9, r9, q9⟩ := q9; exact gone_ok (I9.uncatch I6.ok) hN hi hlo fun s10 I10 => ⟨v, _, _, I10, r9, q9⟩
end L2
namespace L2
open PySem PySem.Spec PyProof.Rows
section
variable {P : Program} {w : World} {K : PySem.W.Frag} {mg : Str → Option Value} {base : Heap}
theorem Fun.okX {x qual : Str} {st : Stmt} {f : Addr} {fd : FuncData} {N ps : List Str} {k : Nat} {sp : Sp} (F : Fun K x qual st f fd) (S : FnScope N ps (defScope st)) (len : ∀ vs H Q E, sp vs H Q E → vs.length = ps.length)
    (hbody : ∀ (cdv : Value) (A : Around) (outer : List Env) (s : Shared) (H : Hp) (vs : List V) (Q : VK) (E : XK), Room k (A.deeper (envOfC qual (defScope st) s.heap.objs.size f cdv)) → sp vs H Q E →
      ∃ t, PSs (cxOf (CXE P w) P w K mg base N qual (defScope st) f cdv A outer s H E) (defBody st) t ∧ t { nx := fun _ H' => Q .non H', rt := Q } (start N vs) H) : FnOk P w K mg base (CXE P w) (k + 1) f fd ps sp := by
  obtain ⟨oc, od, kV, doc, pm, an, cdv, ct, osl, rfl, lk, hcd⟩ := F.ex
  refine fn_of lk hcd S len fun A outer s H vs Q E hr hsp => ?_
  exact hbody cdv A outer s H vs Q E hr hsp
end
section
variable {P : Program} {w : World} {K : PySem.W.Frag} {mg : Str → Option Value} {base : Heap} {N : List Str} {qual : Str} {scope : Scope} {f : Addr} {cd : Value} {A : Around} {outer : List Env} {s₀ : Shared} {H₀ : Hp} {E : XK}
theorem passX : Passes (CXE P w) (cxOf (CXE P w) P w K mg base N qual scope f cd A outer s₀ H₀ E) E := by
  intro pins σ H s e s' I hc
  generalize hX : cxOf (CXE P w) P w K mg base N qual scope f cd A outer s₀ H₀ E = X at I hc
  have eP : X.prog = P := by rw [← hX]; rfl
  have eW : X.w = w := by rw [← hX]; rfl
  have eS : X.stack = X.env :: outer := by rw [← hX]; rfl
  have eL : X.env.frame = some X.env.locals := by rw [← hX]; rfl
  have eF : X.fs = frs outer := by rw [← hX]; rfl
  have e0 : X.s₀ = s₀ := by rw [← hX]; rfl
  have eH : X.H₀ = H₀ := by rw [← hX]; rfl
  have eX : X.ex = [] := by rw [← hX]; rfl
  have eE : X.xe = fun e s' => wpAny (model P w) X.A (leaving X.env e) (fun _ s'' => CXE P w outer H₀ s₀ E e s'') (fun e' s'' => CXE P w outer H₀ s₀ E e' s'') s' := by rw [← hX]; rfl
  rw [eE]
  obtain ⟨ea, D, H', rfl, fl, q⟩ := hc
  obtain ⟨os, bare, un, hok, ⟨B, a0, hfl, dB, tB⟩, nt⟩ := fl
  have hfl' : Heap.FlyingW B (X.env :: outer) ea (.ref D) a0 s'.heap := eS ▸ hfl
  refine wpAny_leaves_onW (by rw [I.ok.frames, eS]) eL hfl' fun h' fly sm => ?_
  have I2 : Inv X pins σ H' { s' with heap := h' } := fly_inv I os bare un (by rw [eP, eW]; exact hok) dB tB hfl.1 fly.1 sm
  have Bs := I2.base
  rw [eF, eX, eH, e0] at Bs
  have o2 := I2.os
  rw [e0] at o2
  have h2 := I2.hok
  rw [eP, eW] at h2
  refine ⟨ea, D, H', rfl, ⟨o2, I2.bare, Bs, h2, ⟨B, a0, fly, fun b o e hb => ?_, tB⟩, nt⟩, q⟩
  have neL : b ≠ X.env.locals := Nat.ne_of_lt (Nat.lt_of_lt_of_le (Heap.lt_size e) (by have := I.ok.above; rw [e0] at this; exact this))
  have Bs0 := I.base
  rw [eF, eX, eH, e0] at Bs0
  obtain ⟨o', e1⟩ := Bs0.there b o e (by simp)
  exact dB b o' e1 (by
    rw [eS, frs_cons eL]
    intro z
    rcases List.mem_cons.mp z with z | z
    · exact neL z
    · exact hb z)
end
end L2
namespace L2
open PySem PySem.Spec PyProof.Rows
theorem pstr_intV {X : Cx} {e : Expr} {pos : Pos} {n : Nat} {te : TE} (he : PE X e te) : PStr X (.FormattedValue e (-1) none pos) n (fun σ H => te σ H fun v H' => H' = H ∧ ∃ i : Int, v = .int i ∧ i.natAbs.log2 < 1920 ∧ (Str.ofString (toString i)).length ≤ n) := fun pins s σ H I h => by
  refine wpAny_FormattedValue_plain (thn (he pins s σ H _ I h) fun u s1 ⟨v, H', I', r, e1, i, e2, hl, hn⟩ => ?_)
  subst e1 e2
  obtain ⟨t, rfl⟩ := r
  exact wpAny_formatField_int hl ⟨_, _, rfl, hn, I'.tok _⟩
end L2
namespace L2
open PySem
def PuE (t : TE) (σ : St) (H : Hp) (v : V) : Prop := ∀ Q : VK, Q v H → t σ H Q
section
variable {ta tb tc : TE} {σ : St} {H : Hp} {a b : Bool} {u v : V}
theorem PuE.eq (h : PuE ta σ H u) (e : u = v) : PuE ta σ H v := e ▸ h
theorem PuE.and (h1 : PuE ta σ H (.bl a)) (h2 : a = true → PuE tb σ H (.bl b)) : PuE (tAndV ta tb) σ H (.bl (a && b)) := fun Q q => h1 _ ⟨a, rfl, by
  cases a with
  | true => exact iteT (h2 rfl Q q)
  | false => exact iteF q⟩
theorem PuE.or (h1 : PuE ta σ H (.bl a)) (h2 : a = false → PuE tb σ H (.bl b)) : PuE (tOrV ta tb) σ H (.bl (a || b)) := fun Q q => h1 _ ⟨a, rfl, by
  cases a with
  | true => exact iteT q
  | false => exact iteF (h2 rfl Q q)⟩
theorem PuE.eqS {x y : Str} (h1 : PuE ta σ H (.str x)) (h2 : PuE tb σ H (.str y)) : PuE (tOp rEq ta tb) σ H (.bl (decide (x = y))) := fun Q q => h1 _ (h2 _ ⟨rfl, by rw [dec_str']; exact q⟩)
theorem PuE.chain {x y z : Int} (h1 : PuE ta σ H (.int x)) (h2 : PuE tb σ H (.int y)) (h3 : PuE tc σ H (.int z)) : PuE (tChain (rI0 fun i j => .bl (decide (i ≤ j))) (rI0 fun i j => .bl (decide (i < j))) ta tb tc) σ H (.bl (decide (x ≤ y ∧ y < z))) := fun Q q =>
  h1 _ (h2 _ ⟨_, _, rfl, rfl, _, rfl, by
    by_cases e : x ≤ y
    · rw [decide_eq_true e]
      refine iteT (h3 _ ⟨_, _, rfl, rfl, ?_⟩)
      have : decide (x ≤ y ∧ y < z) = decide (y < z) := by simp [e]
      rw [this] at q
      exact q
    · rw [decide_eq_false e]
      have : decide (x ≤ y ∧ y < z) = false := by simp [e]
      rw [this] at q
      exact iteF q⟩)
theorem PuE.chainL {x y z : Int} (h1 : PuE ta σ H (.int x)) (h2 : PuE tb σ H (.int y)) (h3 : PuE tc σ H (.int z)) : PuE (tChain (rI0 fun i j => .bl (decide (i ≤ j))) (rI0 fun i j => .bl (decide (i ≤ j))) ta tb tc) σ H (.bl (decide (x ≤ y ∧ y ≤ z))) := fun Q q =>
  h1 _ (h2 _ ⟨_, _, rfl, rfl, _, rfl, by
    by_cases e : x ≤ y
    · rw [decide_eq_true e]
      refine iteT (h3 _ ⟨_, _, rfl, rfl, ?_⟩)
      have : decide (x ≤ y ∧ y ≤ z) = decide (y ≤ z) := by simp [e]
      rw [this] at q
      exact q
    · rw [decide_eq_false e]
      have : decide (x ≤ y ∧ y ≤ z) = false := by simp [e]
      rw [this] at q
      exact iteF q⟩)
theorem PuE.test (h : PuE ta σ H (.bl a)) : PuT (tTest ta) σ H a := fun Qt q => h _ ⟨a, rfl, q⟩
end
end L2
namespace RC
open PySem L2
inductive Part where
  | i (n : Int) | s (x : Str) | v (k : Str) (ns : List Int)
  deriving DecidableEq
abbrev Line := Str × List Part
def PartAt (H : Hp) (u : V) : Part → Prop
  | .i n => u = .int n
  | .s x => u = .str x
  | .v k ns => ∃ r, u = .ref r ∧ H r = some (.tup (.str k :: ns.map V.int))
def LineAt (H : Hp) (u : V) (l : Line) : Prop := ∃ r us, u = .ref r ∧ H r = some (.tup (.str l.1 :: us)) ∧ Paired (PartAt H) us l.2
abbrev LinesAt (H : Hp) : List V → List Line → Prop := Paired (LineAt H)
theorem Paired.imp {α β : Type} {F G : α → β → Prop} (h : ∀ a b, F a b → G a b) : ∀ {l : List α} {m : List β}, Paired F l m → Paired G l m
  | _, _, .nil => .nil
  | _, _, .cons a b => .cons (h _ _ a) (Paired.imp h b)
theorem Paired.get {α β : Type} {F : α → β → Prop} : ∀ {l : List α} {m : List β} {i : Nat} {a : α}, Paired F l m → l[i]? = some a → ∃ b, m[i]? = some b ∧ F a b
  | _, _, _, _, .nil, e => by simp at e
  | _, _, 0, _, .cons p q, e => by
    have e : some _ = some _ := e
    cases e
    exact ⟨_, rfl, p⟩
  | _, _, i + 1, a, .cons p q, e => Paired.get (i := i) q (by simpa using e)
theorem Paired.get' {α β : Type} {F : α → β → Prop} : ∀ {l : List α} {m : List β} {i : Nat} {b : β}, Paired F l m → m[i]? = some b → ∃ a, l[i]? = some a ∧ F a b
  | _, _, _, _, .nil, e => by simp at e
  | _, _, 0, _, .cons p q, e => by
    have e : some _ = some _ := e
    cases e
    exact ⟨_, rfl, p⟩
  | _, _, i + 1, a, .cons p q, e => Paired.get' (i := i) q (by simpa using e)
theorem Paired.app {α β : Type} {F : α → β → Prop} : ∀ {l l' : List α} {m m' : List β}, Paired F l m → Paired F l' m' → Paired F (l ++ l') (m ++ m')
  | _, _, _, _, .nil, h => h
  | _, _, _, _, .cons a b, h => .cons a (Paired.app b h)
theorem Paired.tk {α β : Type} {F : α → β → Prop} : ∀ {l : List α} {m : List β} (n : Nat), Paired F l m → Paired F (l.take n) (m.take n)
  | _, _, 0, _ => .nil
  | _, _, n + 1, .nil => .nil
  | _, _, n + 1, .cons a b => .cons a (Paired.tk n b)
theorem PartAt.ts {H H' : Hp} (s : TSame H H') {u : V} : ∀ {p : Part}, PartAt H u p → PartAt H' u p
  | .i _, h => h
  | .s _, h => h
  | .v _ _, ⟨r, e, h⟩ => ⟨r, e, s _ _ h⟩
theorem LineAt.ts {H H' : Hp} (s : TSame H H') {u : V} {l : Line} (h : LineAt H u l) : LineAt H' u l := by
  obtain ⟨r, us, e, er, ps⟩ := h
  exact ⟨r, us, e, s _ _ er, Paired.imp (fun _ _ => PartAt.ts s) ps⟩
theorem LinesAt.ts {H H' : Hp} (s : TSame H H') {us : List V} {ls : List Line} (h : LinesAt H us ls) : LinesAt H' us ls := Paired.imp (fun _ _ => LineAt.ts s) h
theorem TSame.of {H H' : Hp} (s : Same H H') : TSame H H' := fun b ys e => s _ _ e
theorem LinesAt.same {H H' : Hp} (s : Same H H') {us : List V} {ls : List Line} (h : LinesAt H us ls) : LinesAt H' us ls := LinesAt.ts (TSame.of s) h
theorem tsame_lst {H : Hp} {a : Addr} {xs : List V} {o : HO} (h : H a = some (.lst xs)) : TSame H (upd H a o) := fun b ys e => by
  rw [upd_ne (ne_of e h (by intro z; cases z))]
  exact e
theorem shaped_of {d : PyData} (h1 : d.canLay0 = true) (h2 : d.depth ≤ 64) : PySem.SeqAt.shaped d = true := by unfold PySem.SeqAt.shaped; rw [h1, decide_eq_true h2]; rfl
theorem eqv_same {d : PyData} (h : PySem.SeqAt.shaped d = true) : PyData.eqv d d = true := PySem.SeqAt.eqv_refl d (PySem.SeqAt.canLay_of_shaped h)
def kindsOf (w : Str) : Option (List Str) :=
  if "read" = w then some ["own", "name"] else if "write" = w then some ["name", "value"] else if "set" = w then some ["own", "value", "sign", "value"] else if "skip" = w then some ["value", "test", "value", "count"]
  else if "take" = w then some ["lock"] else if "give" = w then some ["lock"] else if "fork" = w then some ["thread"] else if "wait" = w then some ["thread"] else none
def limOf (many names : Int) (kind : Str) : Option Int :=
  if "own" = kind then some 3 else if "name" = kind then some names else if "lock" = kind then some 3 else if "thread" = kind then some many else if "count" = kind then some 9 else none
def limK (many names : Int) : List (Key × V) := [(Sum.inr "own", .int 3), (Sum.inr "name", .int names), (Sum.inr "lock", .int 3), (Sum.inr "thread", .int many), (Sum.inr "count", .int 9)]
theorem valV_if {x y : Str} {v : V} {r : List (Key × V)} : valV ((Sum.inr x, v) :: r) (Sum.inr y) = if x = y then some v else valV r (Sum.inr y) := by
  by_cases e : x = y
  · rw [if_pos e, valV_pos (by show (Sum.inr x : Key) = _; rw [e])]
  · rw [if_neg e, valV_neg (fun z => e (Sum.inr.inj z))]
theorem limK_val (many names : Int) (kind : Str) : valV (limK many names) (Sum.inr kind) = (limOf many names kind).map V.int := by
  unfold limK limOf
  rw [valV_if, valV_if, valV_if, valV_if, valV_if, valV_nil]
  repeat' split
  all_goals rfl
theorem limK_merge (many names : Int) : mergeK [] (limK many names) = limK many names := by
  rfl
def okVal (k : Str) : List Int → Bool
  | [n] => decide (k = "number") || (decide (k = "own") && decide (0 ≤ n ∧ n < 3))
  | _ => false
def okPart (many names : Int) (kind : Str) : Part → Bool
  | .v k ns => okVal k ns && decide (kind = "value")
  | .s x => if kind = "sign" then decide (x = "+") || decide (x = "-") else if kind = "test" then decide (x = "==") || decide (x = "<") else false
  | .i n => match limOf many names kind with
    | some b => decide (0 ≤ n ∧ n < b)
    | none => false
def tyPart (kind : Str) : Part → Prop
  | .v _ _ => kind = "value"
  | .s _ => kind = "sign" ∨ kind = "test"
  | .i _ => ∃ b, limOf 0 0 kind = some b
def okParts (many names : Int) : List Str → List Part → Bool
  | [], [] => true
  | k :: ks, p :: ps => okPart many names k p && okParts many names ks ps
  | _, _ => false
def okLine (many names : Int) (l : Line) : Bool := match kindsOf l.1 with
  | none => false
  | some ks => okParts many names ks l.2
def tyLine (l : Line) : Prop := ∀ ks, kindsOf l.1 = some ks → ks.length = l.2.length → ∀ (i : Nat) k p, ks[i]? = some k → l.2[i]? = some p → tyPart k p
theorem limOf_ty {many names b : Int} {kind : Str} (h : limOf many names kind = some b) : ∃ c, limOf 0 0 kind = some c := by
  unfold limOf at h ⊢
  by_cases e0 : "own" = kind
  · exact ⟨_, if_pos e0⟩
  rw [if_neg e0] at h ⊢
  by_cases e1 : "name" = kind
  · exact ⟨_, if_pos e1⟩
  rw [if_neg e1] at h ⊢
  by_cases e2 : "lock" = kind
  · exact ⟨_, if_pos e2⟩
  rw [if_neg e2] at h ⊢
  by_cases e3 : "thread" = kind
  · exact ⟨_, if_pos e3⟩
  rw [if_neg e3] at h ⊢
  by_cases e4 : "count" = kind
  · exact ⟨_, if_pos e4⟩
  rw [if_neg e4] at h
  cases h
theorem okPart_ty {many names : Int} {kind : Str} : ∀ {p : Part}, okPart many names kind p = true → tyPart kind p
  | .v k ns, h => by
    have h : (okVal k ns && decide (kind = "value")) = true := h
    rw [Bool.and_eq_true] at h
    show kind = "value"
    exact of_decide_eq_true h.2
  | .s x, h => by
    have h : (if kind = "sign" then decide (x = "+") || decide (x = "-") else if kind = "test" then decide (x = "==") || decide (x = "<") else false) = true := h
    by_cases e1 : kind = "sign"
    · exact .inl e1
    · rw [if_neg e1] at h
      by_cases e2 : kind = "test"
      · exact .inr e2
      · rw [if_neg e2] at h
        cases h
  | .i n, h => by
    have h : (match limOf many names kind with | some b => decide (0 ≤ n ∧ n < b) | none => false) = true := h
    cases e : limOf many names kind with
    | none => rw [e] at h; cases h
    | some b => exact limOf_ty e
theorem okParts_get {many names : Int} : ∀ {ks : List Str} {ps : List Part}, okParts many names ks ps = true → ∀ {i : Nat} {k : Str} {p : Part}, ks[i]? = some k → ps[i]? = some p → okPart many names k p = true
  | [], [], _, i, k, p, e, _ => by simp at e
  | k' :: ks, p' :: ps, h, 0, k, p, e1, e2 => by
    have e1 : some _ = some _ := e1
    have e2 : some _ = some _ := e2
    cases e1; cases e2
    unfold okParts at h
    rw [Bool.and_eq_true] at h
    exact h.1
  | k' :: ks, p' :: ps, h, i + 1, k, p, e1, e2 => by
    unfold okParts at h
    rw [Bool.and_eq_true] at h
    exact okParts_get h.2 (i := i) (by simpa using e1) (by simpa using e2)
  | [], _ :: _, h, _, _, _, _, _ => by unfold okParts at h; cases h
  | _ :: _, [], h, _, _, _, _, _ => by unfold okParts at h; cases h
theorem okLine_ty {many names : Int} {l : Line} (h : okLine many names l = true) : tyLine l := by
  intro ks hk _ i k p e1 e2
  unfold okLine at h
  rw [hk] at h
  exact okPart_ty (okParts_get h e1 e2)
theorem okParts_all {many names : Int} : ∀ {ks : List Str} {ps : List Part}, okParts many names ks ps = (decide (ks.length = ps.length) && (List.range ks.length).all fun i => okPart many names (ks.getD i "") (ps.getD i (.i 0)))
  | [], [] => rfl
  | k :: ks, p :: ps => by
    unfold okParts
    rw [okParts_all (ks := ks) (ps := ps), List.length_cons, List.length_cons, List.range_succ_eq_map, List.all_cons, List.all_map]
    show (okPart many names k p && (decide (ks.length = ps.length) && _)) = (decide (ks.length + 1 = ps.length + 1) && (okPart many names k p && (List.range ks.length).all fun i => okPart many names (ks.getD i "") (ps.getD i (.i 0))))
    rw [show decide (ks.length + 1 = ps.length + 1) = decide (ks.length = ps.length) from decide_eq_decide.mpr (by omega)]
    cases okPart many names k p <;> cases decide (ks.length = ps.length) <;> rfl
  | [], _ :: _ => by
    unfold okParts
    rw [decide_eq_false (by simp)]; rfl
  | _ :: _, [] => by
    unfold okParts
    rw [decide_eq_false (by simp)]; rfl
theorem inV_two (w a b : Str) : inV (.str w) [.str a, .str b] = (decide (w = a) || decide (w = b)) := by
  show ((a == w) || ((b == w) || false)) = _
  rw [Bool.eq_iff_iff]
  simp only [Bool.or_eq_true, beq_iff_eq, decide_eq_true_eq, Bool.false_eq_true, or_false]
  exact ⟨fun z => z.elim (fun e => .inl e.symm) (fun e => .inr e.symm), fun z => z.elim (fun e => .inl e.symm) (fun e => .inr e.symm)⟩
def LSame (H H' : Hp) : Prop := ∀ b o, H b = some o → (∀ xs, o ≠ .lst xs) → H' b = some o
theorem LSame.of {H H' : Hp} (s : Same H H') : LSame H H' := fun b o e _ => s b o e
theorem LSame.put {H : Hp} {a : Addr} {xs : List V} {o : HO} (h : H a = some (.lst xs)) : LSame H (upd H a o) := fun b u e n => by
  rw [upd_ne (ne_of e h (n xs))]
  exact e
theorem LSame.ts {H H' : Hp} (s : LSame H H') : TSame H H' := fun b ys e => s _ _ e (by intro xs z; cases z)
def CodeT (H : Hp) (c : Addr) (ls : List Line) : Prop := ∃ us, H c = some (.tup us) ∧ LinesAt H us ls
theorem CodeT.ts {H H' : Hp} (s : TSame H H') {c : Addr} {ls : List Line} (h : CodeT H c ls) : CodeT H' c ls := by
  obtain ⟨us, e, l⟩ := h
  exact ⟨us, s _ _ e, LinesAt.ts s l⟩
theorem Paired.len {α β : Type} {F : α → β → Prop} : ∀ {l : List α} {m : List β}, Paired F l m → l.length = m.length
  | _, _, .nil => rfl
  | _, _, .cons _ b => by rw [List.length_cons, List.length_cons, Paired.len b]
end RC
namespace K
open PySem L2 RC
theorem bIsi : bootBuiltins "isinstance" = some (.builtin "isinstance") := by decide +kernel
theorem bTuple : bootBuiltins "tuple" = some (.type "tuple") := by decide +kernel
theorem bList : bootBuiltins "list" = some (.type "list") := by decide +kernel
structure Cal (K : PySem.W.Frag) (mg : Str → Option Value) (x : Str) (f : Addr) (fd : FuncData) (ps : List Str) : Prop where
  mgf : mg x = some (.ref f)
  kp : PySem.W.keepIn K (.ref f) = true
  b : Binds K fd ps []
structure TxB (mg : Str → Option Value) : Prop where
  len : mg "len" = none
  rng : mg "range" = none
  isi : mg "isinstance" = none
  int : mg "int" = none
  bool : mg "bool" = none
  tup : mg "tuple" = none
  lst : mg "list" = none
  zip : mg "zip" = none
  all : mg "all" = none
structure TxtP (P : Program) (w : World) (K : PySem.W.Frag) (mg : Str → Option Value) (aP aS aT : Addr) : Prop where
  mgP : mg "PARTS" = some (.ref aP)
  kd : ∃ a0 a1 a2 a3 a4 a5 a6 a7 : Addr, KDic P w K aP [(Sum.inr "read", .ref a0), (Sum.inr "write", .ref a1), (Sum.inr "set", .ref a2), (Sum.inr "skip", .ref a3), (Sum.inr "take", .ref a4), (Sum.inr "give", .ref a5), (Sum.inr "fork", .ref a6), (Sum.inr "wait", .ref a7)] ∧
    (∀ H, SqT K H a0 [.str "own", .str "name"]) ∧ (∀ H, SqT K H a1 [.str "name", .str "value"]) ∧ (∀ H, SqT K H a2 [.str "own", .str "value", .str "sign", .str "value"]) ∧ (∀ H, SqT K H a3 [.str "value", .str "test", .str "value", .str "count"]) ∧
    (∀ H, SqT K H a4 [.str "lock"]) ∧ (∀ H, SqT K H a5 [.str "lock"]) ∧ (∀ H, SqT K H a6 [.str "thread"]) ∧ ∀ H, SqT K H a7 [.str "thread"]
  mgS : mg "SIGNS" = some (.ref aS)
  sqS : ∀ H, SqT K H aS [.str "+", .str "-"]
  mgT : mg "TESTS" = some (.ref aT)
  sqT : ∀ H, SqT K H aT [.str "==", .str "<"]
  own : ∃ t, mg "OWN_NAMES" = some (.int 3 t)
  lck : ∃ t, mg "LOCKS" = some (.int 3 t)
  mln : ∃ t, mg "MOST_LINES" = some (.int 8 t)
  mnm : ∃ t, mg "MOST_NAMES" = some (.int 4 t)
  mth : ∃ t, mg "MOST_THREADS" = some (.int 3 t)
theorem TxtP.kinds {P : Program} {w : World} {K : PySem.W.Frag} {mg : Str → Option Value} {aP aS aT : Addr} (T : TxtP P w K mg aP aS aT) : ∃ kvs, KDic P w K aP kvs ∧ ∀ x : Str, match kindsOf x with
    | none => valV kvs (Sum.inr x) = none
    | some ks => ∃ a, valV kvs (Sum.inr x) = some (.ref a) ∧ ∀ H, SqT K H a (ks.map V.str) := by
  obtain ⟨a0, a1, a2, a3, a4, a5, a6, a7, D, h0, h1, h2, h3, h4, h5, h6, h7⟩ := T.kd
  refine ⟨_, D, fun x => ?_⟩
  rw [valV_if, valV_if, valV_if, valV_if, valV_if, valV_if, valV_if, valV_if, valV_nil]
  unfold kindsOf
  by_cases e0 : "read" = x
  · rw [if_pos e0, if_pos e0]; exact ⟨a0, rfl, h0⟩
  rw [if_neg e0, if_neg e0]
  by_cases e1 : "write" = x
  · rw [if_pos e1, if_pos e1]; exact ⟨a1, rfl, h1⟩
  rw [if_neg e1, if_neg e1]
  by_cases e2 : "set" = x
  · rw [if_pos e2, if_pos e2]; exact ⟨a2, rfl, h2⟩
  rw [if_neg e2, if_neg e2]
  by_cases e3 : "skip" = x
  · rw [if_pos e3, if_pos e3]; exact ⟨a3, rfl, h3⟩
  rw [if_neg e3, if_neg e3]
  by_cases e4 : "take" = x
  · rw [if_pos e4, if_pos e4]; exact ⟨a4, rfl, h4⟩
  rw [if_neg e4, if_neg e4]
  by_cases e5 : "give" = x
  · rw [if_pos e5, if_pos e5]; exact ⟨a5, rfl, h5⟩
  rw [if_neg e5, if_neg e5]
  by_cases e6 : "fork" = x
  · rw [if_pos e6, if_pos e6]; exact ⟨a6, rfl, h6⟩
  rw [if_neg e6, if_neg e6]
  by_cases e7 : "wait" = x
  · rw [if_pos e7, if_pos e7]; exact ⟨a7, rfl, h7⟩
  rw [if_neg e7, if_neg e7]
def spCell (K : PySem.W.Frag) : Sp := fun vs H Q _ => ∃ (a : Addr) (k : Int) (ns : List Int), vs = [.ref a, .int k] ∧ SqL K H a (ns.map V.int) ∧ 0 ≤ k ∧ Q (.int (ns.getD k.toNat 0)) H
def spLim : Sp := fun vs H Q _ => ∃ many names : Int, vs = [.int many, .int names] ∧ ∀ p, H p = none → Q (.ref p) (upd H p (.dK (limK many names)))
def spVal : Sp := fun vs H Q _ => ∃ (r : Addr) (k : Str) (ns : List Int), vs = [.ref r] ∧ H r = some (.tup (.str k :: ns.map V.int)) ∧ Q (.bl (okVal k ns)) H
def spPart : Sp := fun vs H Q _ => ∃ (lm : Addr) (many names : Int) (kind : Str) (u : V) (p : Part), vs = [.ref lm, .str kind, u] ∧ H lm = some (.dK (limK many names)) ∧ PartAt H u p ∧ tyPart kind p ∧ Q (.bl (okPart many names kind p)) H
def spLine : Sp := fun vs H Q _ => ∃ (lm : Addr) (many names : Int) (u : V) (l : Line), vs = [.ref lm, u] ∧ H lm = some (.dK (limK many names)) ∧ LineAt H u l ∧ tyLine l ∧ ∀ H', Same H H' → Q (.bl (okLine many names l)) H'
section
variable {P : Program} {w : World} {K : PySem.W.Frag} {mg : Str → Option Value} {base : Heap}
theorem scCell : FnScope ["_law_script", "_law_k"] ["_law_script", "_law_k"] (defScope sCell) := ⟨rfl, rfl, rfl, by decide +kernel, rfl, by decide +kernel, by decide +kernel⟩
theorem ok_cell {f : Addr} {fd : FuncData} (F : Fun K "_law_cell_at" "_law_cell_at" sCell f fd) (B : TxB mg) : FnOk P w K mg base CX0 1 f fd ["_law_script", "_law_k"] (spCell K) := by
  refine F.ok scCell (fun vs H Q E h => ?_) (fun cdv A outer s H vs Q E hr h => ?_)
  · obtain ⟨a, k, ns, rfl, _⟩ := h
    rfl
  · obtain ⟨a, k, ns, rfl, hS, h0, q⟩ := h
    refine ⟨_, pss_cons (ps_if (pt_cmpR op_lt (pv 1) (pe_callB call_len_seq (by rfl) B.len PySem.boot_len (pa_cons (pv 0) pa_nil)) (nomark _)) (pss_one (ps_ret (pe_ix ix_list (pv 0) (pv 1) (fun _ _ => rfl)))) pss_nil) (pss_one (ps_ret pe_int)), ?_⟩
    refine PuT.ifs (c := k < (ns.length : Int)) (fun Qt q => ⟨_, rfl, _, rfl, a, _, rfl, .inl hS, _, _, rfl, rfl, _, rfl, by rw [List.length_map]; exact q⟩) (fun z => ?_) (fun z => ?_)
    · obtain ⟨n, rfl⟩ : ∃ n : Nat, k = n := ⟨k.toNat, by omega⟩
      have hn : n < ns.length := by omega
      refine ⟨_, rfl, _, rfl, a, _, (n : Int), V.int ns[n], rfl, rfl, hS, atI_nat (by rw [List.getElem?_map]; simp [hn]), ?_⟩
      rw [List.getD_eq_getElem?_getD, show ((n : Int)).toNat = n from rfl] at q
      simpa [hn] using q
    · have e : ns.getD k.toNat 0 = 0 := by
        rw [List.getD_eq_getElem?_getD, List.getElem?_eq_none (by omega)]
        rfl
      rw [e] at q
      exact q
theorem scLim : FnScope ["many", "names"] ["many", "names"] (defScope s_limits_of) := ⟨rfl, rfl, rfl, by decide +kernel, rfl, by decide +kernel, by decide +kernel⟩
theorem ok_lim {f aP aS aT : Addr} {fd : FuncData} (F : Fun K "limits_of" "limits_of" s_limits_of f fd) (T : TxtP P w K mg aP aS aT) : FnOk P w K mg base CX0 1 f fd ["many", "names"] spLim := by
  refine F.ok scLim (fun vs H Q E h => ?_) (fun cdv A outer s H vs Q E hr h => ?_)
  · obtain ⟨m, n, rfl, _⟩ := h
    rfl
  · obtain ⟨m, n, rfl, k⟩ := h
    obtain ⟨t1, h1⟩ := T.own
    obtain ⟨t2, h2⟩ := T.lck
    obtain ⟨t3, h3⟩ := T.mln
    refine ⟨_, pss_one (ps_ret (pe_disp (pps_cons pe_str (pe_glob rfl h1 (v := .int 3) ⟨_, rfl⟩) (pps_cons pe_str (pv 1) (pps_cons pe_str (pe_glob rfl h2 (v := .int 3) ⟨_, rfl⟩) (pps_cons pe_str (pv 0) (pps_cons pe_str (pe_op op_add (pe_glob rfl h3 (v := .int 8) ⟨_, rfl⟩) pe_int) pps_nil))))) rfl rfl (by intro z; cases z) (by decide))), ?_⟩
    refine fun p np => ⟨_, rfl, _, rfl, _, _, rfl, rfl, upd_same, limK m n, rfl, by show 5 ≤ 15; decide, ?_⟩
    rw [upd_upd, limK_merge]
    exact k p np
theorem scVal : FnScope ["value", "kind", "number"] ["value"] (defScope s_is_value) := ⟨rfl, rfl, rfl, by decide +kernel, rfl, by decide +kernel, by decide +kernel⟩
theorem ok_val {f aP aS aT : Addr} {fd : FuncData} (F : Fun K "is_value" "is_value" s_is_value f fd) (B : TxB mg) (T : TxtP P w K mg aP aS aT) : FnOk P w K mg base CX0 1 f fd ["value"] spVal := by
  refine F.ok scVal (fun vs H Q E h => ?_) (fun cdv A outer s H vs Q E hr h => ?_)
  · obtain ⟨r, k, ns, rfl, _⟩ := h
    rfl
  · obtain ⟨r, x, ns, rfl, er, k⟩ := h
    obtain ⟨t1, h1⟩ := T.own
    have nd := scVal.nd
    refine ⟨_, pss_cons (ps_if (pt_cmpR op_ne (pe_callB call_len_seq (by rfl) B.len PySem.boot_len (pa_cons (pv 0) pa_nil)) pe_int (nomark _)) (pss_one (ps_ret pe_bl)) pss_nil)
      (pss_cons (ps_asg (pv 0) (pg_tup rfl (pgs_cons (pg_name (i := 1) nd rfl (Or.inl rfl)) (pgs_cons (pg_name (i := 2) nd rfl (Or.inl rfl)) pgs_nil))))
      (pss_one (ps_ret (pe_or (pe_cmpR op_eq (pv 1) pe_str (nomark _)) (pe_one (pe_and (pe_cmpR op_eq (pv 1) pe_str (nomark _)) (pe_one (pe_chain op_le op_lt pe_int (pv 2) (pe_glob rfl h1 (v := .int 3) ⟨_, rfl⟩))))))))), ?_⟩
    refine PuT.ret (c := ns.length ≠ 1) (fun Qt q => ⟨_, rfl, r, _, rfl, .inr (SqT.of er), rfl, _, rfl, ?_⟩) (fun z => ?_) (fun z => ?_)
    · rw [dec_int', List.length_cons, List.length_map]
      have : (!decide (((ns.length + 1 : Nat) : Int) = 2)) = decide (ns.length ≠ 1) := by
        rw [← decide_not]
        exact decide_eq_decide.mpr (by omega)
      rw [this]
      exact q
    · have e : okVal x ns = false := by
        match ns, z with
        | [], _ => rfl
        | [_], z => exact absurd rfl z
        | _ :: _ :: _, _ => rfl
      rw [e] at k
      exact k
    · match ns, z with
      | [], z => exact absurd (by decide) z
      | _ :: _ :: _, z => exact absurd (by simp) z
      | [n], _ =>
        refine ⟨_, rfl, r, _, rfl, SqT.of er, rfl, _, _, rfl, _, _, rfl, rfl, ?_⟩
        dsimp only [gName]
        refine PuE.or (PuE.eqS (fun Q q => ⟨_, rfl, q⟩) (fun Q q => q)) (fun _ => PuE.and (PuE.eqS (fun Q q => ⟨_, rfl, q⟩) (fun Q q => q)) (fun _ => PuE.chain (fun Q q => q) (fun Q q => ⟨_, rfl, q⟩) (fun Q q => q))) _ ?_
        exact k
end
end K
namespace K
open PySem L2 RC
theorem ndKPL : (["kind", "part", "limits"] : List Str).Nodup := by decide +kernel
theorem n_sv : ¬ (("sign" : Str) = "value") := by decide +kernel
theorem n_tv : ¬ (("test" : Str) = "value") := by decide +kernel
theorem n_ts : ¬ (("test" : Str) = "sign") := by decide +kernel
theorem lim_v : limOf 0 0 "value" = none := by decide +kernel
theorem lim_s : limOf 0 0 "sign" = none := by decide +kernel
theorem lim_t : limOf 0 0 "test" = none := by decide +kernel
section
variable {P : Program} {w : World} {K : PySem.W.Frag} {mg : Str → Option Value} {base : Heap}
theorem scPart : FnScope ["limits", "kind", "part"] ["limits", "kind", "part"] (defScope s_is_part) := ⟨rfl, rfl, rfl, by decide +kernel, rfl, by decide +kernel, by decide +kernel⟩
theorem ok_part {f aP aS aT fV : Addr} {fd fdV : FuncData} (F : Fun K "is_part" "is_part" s_is_part f fd) (T : TxtP P w K mg aP aS aT)
    (GV : FnOk P w K mg base CX0 1 fV fdV ["value"] spVal) (cV : Cal K mg "is_value" fV fdV ["value"]) : FnOk P w K mg base CX0 2 f fd ["limits", "kind", "part"] spPart := by
  refine F.ok scPart (fun vs H Q E h => ?_) (fun cdv A outer s H vs Q E hr h => ?_)
  · obtain ⟨lm, m, n, kd, u, p, rfl, _⟩ := h
    rfl
  · obtain ⟨lm, m, n, kd, u, p, rfl, el, hu', ty, k⟩ := h
    have hr1 : Room 1 _ := hr.mono (by decide)
    have hu := hu_of hr
    refine ⟨_, pss_cons (ps_if (pt_cmpR op_eq (pv 1) pe_str (nomark _)) (pss_one (ps_ret (pe_call GV hr1 rfl cV.mgf cV.kp cV.b .nil pass0 (pa_cons (pv 2) pa_nil)))) pss_nil)
      (pss_cons (ps_if (pt_cmpR op_eq (pv 1) pe_str (nomark _)) (pss_one (ps_ret (pe_cmpR op_in_seq (pv 2) (pe_glob rfl T.mgS (v := .ref aS) rfl) (by with_unfolding_all rfl)))) pss_nil)
      (pss_cons (ps_if (pt_cmpR op_eq (pv 1) pe_str (nomark _)) (pss_one (ps_ret (pe_cmpR op_in_seq (pv 2) (pe_glob rfl T.mgT (v := .ref aT) rfl) (by with_unfolding_all rfl)))) pss_nil)
      (pss_one (ps_ret (pe_chain op_le op_lt pe_int (pv 2) (pe_dget hu (pv 0) (pv 1) (fun _ _ => rfl))))))), ?_⟩
    refine PuT.ifs (c := kd = "value") (PuE.test (PuE.eqS (fun Q q => ⟨_, rfl, q⟩) (fun Q q => q))) (fun z => ?_) (fun z0 => ?_)
    · subst z
      match p, hu', ty, k with
      | .v x ns, ⟨r, e, er⟩, _, k =>
        subst e
        have k : Q (.bl (okVal x ns && decide (("value" : Str) = "value"))) H := k
        rw [decide_eq_true rfl, Bool.and_true] at k
        exact ⟨_, rfl, r, x, ns, rfl, er, k⟩
      | .s x, _, ty, _ => exact (ty.elim (fun z => n_sv z.symm) (fun z => n_tv z.symm)).elim
      | .i x, _, ⟨b, e⟩, _ => rw [lim_v] at e; cases e
    refine PuT.ifs (c := kd = "sign") (PuE.test (PuE.eqS (fun Q q => ⟨_, rfl, q⟩) (fun Q q => q))) (fun z => ?_) (fun z1 => ?_)
    · subst z
      match p, hu', ty, k with
      | .v x ns, _, ty, _ => exact (n_sv ty).elim
      | .s x, e, _, k =>
        have e : u = .str x := e
        subst e
        have k : Q (.bl (if ("sign" : Str) = "sign" then decide (x = "+") || decide (x = "-") else if ("sign" : Str) = "test" then decide (x = "==") || decide (x = "<") else false)) H := k
        rw [if_pos rfl] at k
        refine ⟨_, rfl, aS, _, rfl, .inr (T.sqS H), rfl, rfl, ?_⟩
        show Q (.bl (inV (.str x) [.str "+", .str "-"])) H
        rw [inV_two]
        exact k
      | .i x, _, ⟨b, e⟩, _ => rw [lim_s] at e; cases e
    refine PuT.ifs (c := kd = "test") (PuE.test (PuE.eqS (fun Q q => ⟨_, rfl, q⟩) (fun Q q => q))) (fun z => ?_) (fun z2 => ?_)
    · subst z
      match p, hu', ty, k with
      | .v x ns, _, ty, _ => exact (n_tv ty).elim
      | .s x, e, _, k =>
        have e : u = .str x := e
        subst e
        have k : Q (.bl (if ("test" : Str) = "sign" then decide (x = "+") || decide (x = "-") else if ("test" : Str) = "test" then decide (x = "==") || decide (x = "<") else false)) H := k
        rw [if_neg n_ts, if_pos rfl] at k
        refine ⟨_, rfl, aT, _, rfl, .inr (T.sqT H), rfl, rfl, ?_⟩
        show Q (.bl (inV (.str x) [.str "==", .str "<"])) H
        rw [inV_two]
        exact k
      | .i x, _, ⟨b, e⟩, _ => rw [lim_t] at e; cases e
    match p, hu', ty, k with
    | .v x ns, _, ty, _ => exact (z0 ty).elim
    | .s x, _, ty, _ => exact (ty.elim z1 z2).elim
    | .i x, e, ⟨b0, e0⟩, k =>
      have e : u = .int x := e
      subst e
      obtain ⟨b, eb⟩ : ∃ b, limOf m n kd = some b := by
        unfold limOf at e0 ⊢
        by_cases q0 : "own" = kd
        · exact ⟨_, if_pos q0⟩
        rw [if_neg q0] at e0 ⊢
        by_cases q1 : "name" = kd
        · exact ⟨_, if_pos q1⟩
        rw [if_neg q1] at e0 ⊢
        by_cases q2 : "lock" = kd
        · exact ⟨_, if_pos q2⟩
        rw [if_neg q2] at e0 ⊢
        by_cases q3 : "thread" = kd
        · exact ⟨_, if_pos q3⟩
        rw [if_neg q3] at e0 ⊢
        by_cases q4 : "count" = kd
        · exact ⟨_, if_pos q4⟩
        rw [if_neg q4] at e0
        cases e0
      have k : Q (.bl (match limOf m n kd with | some b => decide (0 ≤ x ∧ x < b) | none => false)) H := k
      rw [eb] at k
      have dg : DGet H lm (.str kd) (some (.int b)) := by
        have := DGet.k (k := Sum.inr kd) el
        rw [limK_val, eb] at this
        exact this
      exact PuE.chain (fun Q q => q) (fun Q q => ⟨_, rfl, q⟩) (fun Q q => ⟨_, rfl, _, rfl, lm, _, rfl, dg, q⟩) _ k
theorem scLine : FnScope ["limits", "line", "kinds"] ["limits", "line"] (defScope s_is_line) := ⟨rfl, rfl, rfl, by decide +kernel, rfl, by decide +kernel, by decide +kernel⟩
theorem all_range (n : Nat) (g : Nat → Bool) : (List.range n).map (fun i => V.bl (g i)) = ((List.range n).map g).map V.bl := by rw [List.map_map]; rfl
theorem ok_line {f aP aS aT fV : Addr} {fd fdV : FuncData} (F : Fun K "is_line" "is_line" s_is_line f fd) (B : TxB mg) (T : TxtP P w K mg aP aS aT)
    (GV : FnOk P w K mg base CX0 2 fV fdV ["limits", "kind", "part"] spPart) (cV : Cal K mg "is_part" fV fdV ["limits", "kind", "part"]) : FnOk P w K mg base CX0 3 f fd ["limits", "line"] spLine := by
  refine F.ok scLine (fun vs H Q E h => ?_) (fun cdv A outer s H vs Q E hr h => ?_)
  · obtain ⟨lm, m, n, u, l, rfl, _⟩ := h
    rfl
  · obtain ⟨lm, m, n, u, ⟨wd, ps⟩, rfl, el, ⟨r, us, rfl, er, hp⟩, ty, k⟩ := h
    have nd := scLine.nd
    have hr2 : Room 2 _ := hr.mono (by decide)
    have er : H r = some (.tup (.str wd :: us)) := er
    have hp : Paired (PartAt H) us ps := hp
    refine ⟨_, pss_cons (ps_if (PW.pt (pw_or (pt_cmpR op_eq (pe_callB call_len_seq (by rfl) B.len PySem.boot_len (pa_cons (pv 1) pa_nil)) pe_int (nomark _)) (pw_or1 (pt_cmpR op_notInK (pe_ix ix_tup (pv 1) pe_int (fun _ _ => rfl)) (pe_glob rfl T.mgP (v := .ref aP) rfl) (by with_unfolding_all rfl))))) (pss_one (ps_ret pe_bl)) pss_nil)
      (pss_cons (ps_set (i := 2) nd rfl (Or.inl rfl) (pe_ix ix_K (pe_glob rfl T.mgP (v := .ref aP) rfl) (pe_ix ix_tup (pv 1) pe_int (fun _ _ => rfl)) (fun _ _ => rfl)))
      (pss_cons (ps_if (pt_cmpR op_ne (pe_callB call_len_seq (by rfl) B.len PySem.boot_len (pa_cons (pv 1) pa_nil)) (pe_op op_add (pe_callB call_len_seq (by rfl) B.len PySem.boot_len (pa_cons (pv 2) pa_nil)) pe_int) (nomark _)) (pss_one (ps_ret pe_bl)) pss_nil)
      (pss_one (ps_ret (pe_callB (call_all rfl) (by rfl) B.all boot_all (pa_cons (pe_comp (N := ["kind", "part", "limits"]) (nt := 2) (fr := [0]) (g := gTup K 2 (gCons (gName 0) (gCons (gName 1) gNil))) (te := tCall spPart [] E0 (tCons (tVar 2) (tCons (tVar 0) (tCons (tVar 1) tNil)))) rfl
        (.of (XN := ["limits", "line", "kinds"]) (osc := defScope s_is_line) rfl rfl rfl (by decide +kernel) (by decide +kernel) (by decide +kernel) rfl (by decide +kernel)) (pi_zipT rfl B.zip (pa_cons (pv 2) (pa_cons (pe_slice sl_tup (pv 1) (po_some pe_int) po_none) pa_nil)))
        (fun _ _ _ _ _ _ => ⟨pg_tup (n := 2) rfl (pgs_cons (pg_name (i := 0) ndKPL rfl (Or.inl rfl) (Or.inr rfl)) (pgs_cons (pg_name (i := 1) ndKPL rfl (Or.inl rfl) (Or.inr rfl)) pgs_nil)), pif_nil, pe_call GV hr2 rfl cV.mgf cV.kp cV.b .nil pass0 (pa_cons (pv 2) (pa_cons (pv 0) (pa_cons (pv 1) pa_nil)))⟩)) pa_nil)))))), ?_⟩
    obtain ⟨kvs, KD, kk⟩ := T.kinds
    have kx := kk wd
    refine PuT.ret (c := kindsOf wd = none) ((PuT.or (a := false) (b := decide (kindsOf wd = none)) (fun Qt q => ⟨_, rfl, r, _, rfl, .inr (SqT.of er), rfl, _, rfl, by
        rw [dec_int', decide_eq_false (by rw [List.length_cons]; omega)]
        exact q⟩)
      (fun _ Qt q => ⟨_, rfl, r, _, _, .str wd, rfl, rfl, SqT.of er, atI_nat (j := 0) rfl, aP, kvs, Sum.inr wd, rfl, KD, rfl, _, rfl, by
        have : (!(valV kvs (Sum.inr wd)).isSome) = decide (kindsOf wd = none) := by
          cases e : kindsOf wd with
          | none => rw [e] at kx; rw [kx]; rfl
          | some ks => rw [e] at kx; obtain ⟨a, ea, _⟩ := kx; rw [ea]; rfl
        rw [this]
        exact q⟩)).iff (by simp)) (fun z => ?_) (fun z => ?_)
    · have e : okLine m n (wd, ps) = false := by
        unfold okLine
        show (match kindsOf wd with | none => false | some ks => okParts m n ks ps) = false
        rw [z]
      have q := k H (Same.refl _)
      rw [e] at q
      exact q
    obtain ⟨ks, eks⟩ := Option.ne_none_iff_exists'.mp z
    rw [eks] at kx
    obtain ⟨a, ea, ha⟩ := kx
    have eo : okLine m n (wd, ps) = okParts m n ks ps := by
      unfold okLine
      show (match kindsOf wd with | none => false | some ks => okParts m n ks ps) = _
      rw [eks]
    rw [eo] at k
    have hl := Paired.len hp
    refine ⟨_, rfl, r, _, _, .str wd, rfl, rfl, SqT.of er, atI_nat (j := 0) rfl, aP, kvs, Sum.inr wd, .ref a, rfl, KD, rfl, ea, ?_⟩
    dsimp only [gName]
    refine PuT.ret (c := ks.length ≠ ps.length) (fun Qt q => ⟨_, rfl, r, _, rfl, .inr (SqT.of er), _, rfl, a, _, rfl, .inr (ha H), _, _, rfl, rfl, rfl, _, rfl, ?_⟩) (fun z => ?_) (fun z => ?_)
    · rw [dec_int', List.length_cons, List.length_map]
      have : (!decide (((us.length + 1 : Nat) : Int) = (ks.length : Int) + 1)) = decide (ks.length ≠ ps.length) := by
        rw [← decide_not]
        exact decide_eq_decide.mpr (by omega)
      rw [this]
      exact q
    · have e : okParts m n ks ps = false := by rw [okParts_all, decide_eq_false z]; rfl
      have q := k H (Same.refl _)
      rw [e] at q
      exact q
    have z : ks.length = ps.length := Decidable.not_not.mp z
    have ty := ty ks eks z
    have hz : ks.length < sizeLine := by
      have : ks.length ≤ 4 := by
        unfold kindsOf at eks
        repeat' split at eks
        all_goals first | (cases eks; decide) | cases eks
      rw [sizeLine_eq]; omega
    dsimp only [tRet, tCB, tCons, tNil]
    refine tComp_zipT (a := a) (xs := ks.map V.str) (zs := us) (fun i => V.bl (okPart m n (ks.getD i "") (ps.getD i (.i 0)))) (fun Q' q => ⟨_, rfl, _, rfl, 1, rfl, r, _, rfl, SqT.of er, fun ⟨e1, _⟩ => ?_, fun b nb => q b _ (same_new nb) ?_⟩) (ha H) (by rw [List.length_map]; omega) (by rw [List.length_map]; exact hz) (fun i x y H3 Qe hx hy s3 q => ?_) (fun D H' hD s' e => ?_)
    · rw [show (some (1 : Int)) = some ((1 : Nat) : Int) from rfl, HT.sIx_nat, List.length_cons] at e1
      omega
    · rw [show (some (1 : Int)) = some ((1 : Nat) : Int) from rfl, cutV_drop]
      exact SqT.of upd_same
    · rw [List.getElem?_map] at hx
      obtain ⟨kd, ekd, rfl⟩ := Option.map_eq_some_iff.mp hx
      obtain ⟨p, ep, pp⟩ := Paired.get hp hy
      have e1 : ks.getD i "" = kd := by rw [List.getD_eq_getElem?_getD, ekd]; rfl
      have e2 : ps.getD i (.i 0) = p := by rw [List.getD_eq_getElem?_getD, ep]; rfl
      rw [e1, e2] at q
      exact ⟨_, rfl, _, rfl, _, rfl, lm, m, n, kd, y, p, rfl, s3 _ _ el, PartAt.ts (TSame.of s3) pp, ty i kd p ekd ep, q H3 (Same.refl _)⟩
    · rw [List.length_map, all_range] at e
      refine ⟨D, _, rfl, SqL.of e, ?_⟩
      have q := k H' s'
      rw [okParts_all, decide_eq_true z, Bool.true_and] at q
      rw [List.all_map]
      exact q
end
end K
namespace L2
open PySem RC
def rTupO (K : PySem.W.Frag) : List V → Hp → VK → Prop := fun xs H Q => ∃ p ys, xs = [.ref p] ∧ ((SqL K H p ys ∧ ∀ l, H l = none → Q (.ref l) (upd H l (.tup ys))) ∨ (SqT K H p ys ∧ Q (.ref p) H))
theorem call_tupO {X : Cx} : CallR X (.type "tuple") (rTupO X.K) := call_tuple_of
def rLstO (K : PySem.W.Frag) : List V → Hp → VK → Prop := fun xs H Q => ∃ p ys, xs = [.ref p] ∧ (SqL K H p ys ∨ SqT K H p ys) ∧ ∀ l, H l = none → Q (.ref l) (upd H l (.lst ys))
theorem call_lstO {X : Cx} : CallR X (.type "list") (rLstO X.K) := call_list_of
theorem take_snoc' {α : Type} {xs : List α} {i : Nat} {x : α} (h : xs[i]? = some x) : xs.take (i + 1) = xs.take i ++ [x] := take_snoc h
theorem comp_rel {β : Type} {K : PySem.W.Frag} {fr : List Nat} {te : TE} {σ : St} {H1 : Hp} {Q : VK} {a : Addr} {xs : List V} (R : Hp → V → β → Prop) (bs : List β) (hz : xs.length < sizeLine) (ha : SqL K H1 a xs) (hl : xs.length = bs.length)
    (m1 : ∀ H H' v b, Same H H' → R H v b → R H' v b) (m2 : ∀ H D ys o v b, H D = some (.lst ys) → v ≠ .ref D → R H v b → R (upd H D o) v b)
    (he : ∀ (i : Nat) x b H' (Qe : VK), xs[i]? = some x → bs[i]? = some b → Same H1 H' → (∀ v H'', Same H' H'' → R H'' v b → (∀ c, v = .ref c → H' c = none) → Qe v H'') → te (some x :: frV fr σ) H' Qe)
    (fin : ∀ D ys H', H1 D = none → Same H1 H' → H' D = some (.lst ys) → Paired (R H') ys bs → (∀ c, .ref c ∈ ys → H1 c = none) → (.ref D : V) ∉ ys → Q (.ref D) H') : CompG K 1 fr (gName 0) tYes te σ H1 Q a := by
  refine comp_listG (xs := xs) (fun D i ys H' => Same H1 H' ∧ Paired (R H') ys (bs.take i) ∧ (∀ c, .ref c ∈ ys → H1 c = none) ∧ .ref D ∉ ys) hz (fun D hD => ⟨same_new hD, .nil, fun c hc => (by cases hc), fun hc => (by cases hc)⟩) (fun D i ys H' hD ⟨s, _⟩ => s.seq ha)
    (fun D i x ys H' o N hD hx ho ⟨s, hP, hf, hn⟩ hd hys kT kF => ?_) (fun D ys H' hD ⟨s, hP, hf, hn⟩ e => fin D ys H' hD s e (by
      rw [hl, List.take_length] at hP
      exact hP) hf hn)
  have hi : i < bs.length := by rw [← hl]; exact (List.getElem?_eq_some_iff.mp hx).1
  have hb : bs[i]? = some bs[i] := by simp [hi]
  match o, ho with
  | [o1], _ =>
    refine he i x bs[i] H' _ hx hb s fun v H5 s5 r5 nv => ⟨ys, s5 _ _ hd, hys, kT [some x] v H5 rfl ⟨(s.trans s5).put2 hD, ?_, ?_, ?_⟩⟩
    · have nvD : v ≠ .ref D := fun e => by
        have := nv D e
        rw [hd] at this
        cases this
      rw [take_snoc hb]
      have old : Paired (R (upd H5 D (.lst (ys ++ [v])))) ys (bs.take i) := by
        have key : ∀ {l : List V} {m : List β}, (.ref D : V) ∉ l → Paired (R H') l m → Paired (R (upd H5 D (.lst (ys ++ [v])))) l m := by
          intro l m hnl p
          induction p with
          | nil => exact .nil
          | cons p q ih => exact .cons (m2 _ _ _ _ _ _ (s5 _ _ hd) (fun e => hnl (by rw [e]; exact .head _)) (m1 _ _ _ _ s5 p)) (ih fun z => hnl (.tail _ z))
        exact key hn hP
      exact RC.Paired.app old (.cons (m2 _ _ _ _ _ _ (s5 _ _ hd) nvD r5) .nil)
    · intro c hc
      rcases List.mem_append.mp hc with q | q
      · exact hf c q
      · have : v = .ref c := (List.mem_singleton.mp q).symm
        exact s.free (nv c this)
    · intro hc
      rcases List.mem_append.mp hc with q | q
      · exact hn q
      · have e : v = .ref D := (List.mem_singleton.mp q).symm
        have := nv D e
        rw [hd] at this
        cases this
end L2
namespace RC
open PySem L2
def NewL (H : Hp) (v : V) (ls : List Line) : Prop := ∃ c us, v = .ref c ∧ H c = some (.lst us) ∧ LinesAt H us ls
def NewT (H : Hp) (v : V) (ls : List Line) : Prop := ∃ c, v = .ref c ∧ CodeT H c ls
theorem NewL.m1 {H H' : Hp} {v : V} {ls : List Line} (s : Same H H') (h : NewL H v ls) : NewL H' v ls := by
  obtain ⟨c, us, e, ec, l⟩ := h
  exact ⟨c, us, e, s _ _ ec, LinesAt.same s l⟩
theorem NewL.m2 {H : Hp} {D : Addr} {ys : List V} {o : HO} {v : V} {ls : List Line} (hd : H D = some (.lst ys)) (n : v ≠ .ref D) (h : NewL H v ls) : NewL (upd H D o) v ls := by
  obtain ⟨c, us, rfl, ec, l⟩ := h
  exact ⟨c, us, rfl, by rw [upd_ne (fun e => n (by rw [e]))]; exact ec, LinesAt.ts (tsame_lst hd) l⟩
theorem NewT.m1 {H H' : Hp} {v : V} {ls : List Line} (s : Same H H') (h : NewT H v ls) : NewT H' v ls := by
  obtain ⟨c, e, t⟩ := h
  exact ⟨c, e, t.ts (TSame.of s)⟩
theorem NewT.ts {H H' : Hp} {v : V} {ls : List Line} (s : TSame H H') (h : NewT H v ls) : NewT H' v ls := by
  obtain ⟨c, e, t⟩ := h
  exact ⟨c, e, t.ts s⟩
theorem NewT.m2 {H : Hp} {D : Addr} {ys : List V} {o : HO} {v : V} {ls : List Line} (hd : H D = some (.lst ys)) (_ : v ≠ .ref D) (h : NewT H v ls) : NewT (upd H D o) v ls := h.ts (tsame_lst hd)
def CodR (K : PySem.W.Frag) (H : Hp) (v : V) (ls : List Line) : Prop := ∃ c us, v = .ref c ∧ SqL K H c us ∧ LinesAt H us ls
theorem CodR.same {K : PySem.W.Frag} {H H' : Hp} {v : V} {ls : List Line} (s : Same H H') (h : CodR K H v ls) : CodR K H' v ls := by
  obtain ⟨c, us, e, ec, l⟩ := h
  exact ⟨c, us, e, s.seq ec, LinesAt.same s l⟩
theorem NewL.cod {K : PySem.W.Frag} {H : Hp} {v : V} {ls : List Line} (h : NewL H v ls) : CodR K H v ls := by
  obtain ⟨c, us, e, ec, l⟩ := h
  exact ⟨c, us, e, SqL.of ec, l⟩
structure GoodP (fs : List Int) (cs : List (List Line)) : Prop where
  f1 : 1 ≤ fs.length
  f4 : fs.length ≤ 4
  c1 : 1 ≤ cs.length
  c3 : cs.length ≤ 3
  l8 : ∀ ls ∈ cs, ls.length ≤ 8
  ok : ∀ ls ∈ cs, ∀ l ∈ ls, okLine cs.length fs.length l = true
end RC
namespace RC
open PySem L2
theorem newLs_same {H H' : Hp} {xs : List V} {cs : List (List Line)} (s : Same H H') (h : Paired (NewL H) xs cs) : Paired (NewL H') xs cs := Paired.imp (fun _ _ q => q.m1 s) h
theorem newLs_put {H : Hp} {D : Addr} {ys : List V} {o : HO} (hd : H D = some (.lst ys)) : ∀ {xs : List V} {cs : List (List Line)}, (.ref D : V) ∉ xs → Paired (NewL H) xs cs → Paired (NewL (upd H D o)) xs cs
  | _, _, _, .nil => .nil
  | _, _, n, .cons p q => .cons (p.m2 hd (fun e => n (by rw [e]; exact .head _))) (newLs_put hd (fun z => n (.tail _ z)) q)
structure CD (m n : Int) (H H2 : Hp) (r : Addr) (xs : List V) (cs : List (List Line)) (ln : Addr) (us : List V) (ls : List Line) : Prop where
  s : Same H H2
  er : H2 r = some (.lst xs)
  P : Paired (NewL H2) xs cs
  fx : ∀ c, (.ref c : V) ∈ xs → H c = none ∧ c ≠ r
  eln : H2 ln = some (.lst us)
  nln : H ln = none
  nlr : ln ≠ r
  nlx : (.ref ln : V) ∉ xs
  L : LinesAt H2 us ls
  ok : ∀ l ∈ ls, okLine m n l = true
theorem CD.same {m n : Int} {H H2 H3 : Hp} {r : Addr} {xs : List V} {cs : List (List Line)} {ln : Addr} {us : List V} {ls : List Line} (s : Same H2 H3) (h : CD m n H H2 r xs cs ln us ls) : CD m n H H3 r xs cs ln us ls :=
  ⟨h.s.trans s, s _ _ h.er, newLs_same s h.P, h.fx, s _ _ h.eln, h.nln, h.nlr, h.nlx, LinesAt.same s h.L, h.ok⟩
theorem CD.app {m n : Int} {H H2 : Hp} {r : Addr} {xs : List V} {cs : List (List Line)} {ln : Addr} {us : List V} {ls : List Line} {v : V} {l : Line} (h : CD m n H H2 r xs cs ln us ls) (hv : LineAt H2 v l) (ho : okLine m n l = true) :
    CD m n H (upd H2 ln (.lst (us ++ [v]))) r xs cs ln (us ++ [v]) (ls ++ [l]) := by
  have ts : TSame H2 (upd H2 ln (.lst (us ++ [v]))) := tsame_lst h.eln
  refine ⟨h.s.put2 h.nln, by rw [upd_ne h.nlr.symm]; exact h.er, newLs_put h.eln h.nlx h.P, h.fx, upd_same, h.nln, h.nlr, h.nlx, Paired.app (LinesAt.ts ts h.L) (.cons (LineAt.ts ts hv) .nil), fun l' hl' => ?_⟩
  rcases List.mem_append.mp hl' with q | q
  · exact h.ok l' q
  · rw [List.mem_singleton.mp q]
    exact ho
theorem newLs_mem {H : Hp} {c : Addr} : ∀ {xs : List V} {cs : List (List Line)}, Paired (NewL H) xs cs → (.ref c : V) ∈ xs → ∃ us, H c = some (.lst us)
  | _, _, .cons p q, h => by
    rcases List.mem_cons.mp h with e | e
    · obtain ⟨c', us, e', ec, _⟩ := p
      rw [← e] at e'
      cases e'
      exact ⟨us, ec⟩
    · exact newLs_mem q e
theorem newLs_off {H : Hp} {D : Addr} {xs : List V} {cs : List (List Line)} (h : Paired (NewL H) xs cs) (hd : H D = none) : (.ref D : V) ∉ xs := fun z => by
  obtain ⟨us, e⟩ := newLs_mem h z
  rw [hd] at e
  cases e
structure CO (m n : Int) (H H2 : Hp) (r : Addr) (xs : List V) (cs : List (List Line)) : Prop where
  s : Same H H2
  nr : H r = none
  er : H2 r = some (.lst xs)
  P : Paired (NewL H2) xs cs
  fx : ∀ c, (.ref c : V) ∈ xs → H c = none ∧ c ≠ r
  l8 : ∀ ls ∈ cs, ls.length ≤ 8
  ok : ∀ ls ∈ cs, ∀ l ∈ ls, okLine m n l = true
theorem CO.turn {m n : Int} {H H2 H3 : Hp} {r ln : Addr} {xs us : List V} {cs : List (List Line)} {ls : List Line} (h : CO m n H H2 r xs cs) (s : Same H2 H3) (nl : H2 ln = none) (e : H3 ln = some (.lst us)) (L : LinesAt H3 us ls) (ok : ∀ l ∈ ls, okLine m n l = true) : CD m n H H3 r xs cs ln us ls :=
  ⟨h.s.trans s, s _ _ h.er, newLs_same s h.P, h.fx, e, h.s.free nl, fun z => (by rw [z, h.er] at nl; cases nl), newLs_off h.P nl, L, ok⟩
theorem CD.next {m n : Int} {H H2 H3 : Hp} {r c ln : Addr} {xs : List V} {cs : List (List Line)} {us : List V} {ls : List Line} (h : CD m n H H3 r xs cs ln us ls) (h0 : CO m n H H2 r xs cs) (nc : H3 c = none) :
    CO m n H (upd (upd H3 c (.lst (us.take 8))) r (.lst (xs ++ [.ref c]))) r (xs ++ [.ref c]) (cs ++ [ls.take 8]) := by
  have g := h.same (same_new (o := .lst (us.take 8)) nc)
  have e4 : upd H3 c (.lst (us.take 8)) c = some (.lst (us.take 8)) := upd_same
  have hcr : c ≠ r := fun z => by rw [z, h.er] at nc; cases nc
  generalize upd H3 c (.lst (us.take 8)) = H4 at g e4
  have nx : (.ref r : V) ∉ xs := fun z => (h.fx r z).2 rfl
  have ts : TSame H4 (upd H4 r (.lst (xs ++ [.ref c]))) := tsame_lst g.er
  refine ⟨g.s.put2 h0.nr, h0.nr, upd_same, Paired.app (newLs_put g.er nx g.P) (.cons ⟨c, us.take 8, rfl, by rw [upd_ne hcr]; exact e4, LinesAt.ts ts (Paired.tk 8 g.L)⟩ .nil), fun d hd => ?_, fun l hl => ?_, fun l hl l' hl' => ?_⟩
  · rcases List.mem_append.mp hd with q | q
    · exact h.fx d q
    · have : d = c := V.ref.inj (List.mem_singleton.mp q)
      rw [this]
      exact ⟨h.s.free nc, hcr⟩
  · rcases List.mem_append.mp hl with q | q
    · exact h0.l8 l q
    · rw [List.mem_singleton.mp q, List.length_take]
      omega
  · rcases List.mem_append.mp hl with q | q
    · exact h0.ok l q l' hl'
    · rw [List.mem_singleton.mp q] at hl'
      exact h.ok l' (List.mem_of_mem_take hl')
end RC
namespace L2
open PySem
theorem asgComp_range2 {lo hi : Int} {fr : List Nat} {ta : TA} {tt : TT} {te : TE} {σ : St} {H : Hp} {j : Nat} {De : Ends} (Pv : Addr → Nat → List V → Hp → Prop) (h : ∀ Q' : List V → Hp → Prop, Q' [.int lo, .int hi] H → ta σ H Q') (hb : -(2 ^ 62) ≤ lo ∧ lo < 2 ^ 62 ∧ -(2 ^ 62) ≤ hi ∧ hi < 2 ^ 62) (hn : (hi - lo).toNat ≤ 1000) (h0 : ∀ D, H D = none → Pv D 0 [] (upd H D (.lst [])))
    (step : ∀ D, H D = none → ∀ i ys H' (N : St → Hp → Prop), i < (hi - lo).toNat → Pv D i ys H' → H' D = some (.lst ys) → ys.length < sizeLine →
      (∀ v H5, Pv D (i + 1) (ys ++ [v]) (upd H5 D (.lst (ys ++ [v]))) → N (some (.int (lo + i)) :: frV fr σ) (upd H5 D (.lst (ys ++ [v])))) → (∀ H5, H5 D = some (.lst ys) → Pv D (i + 1) ys H5 → N (some (.int (lo + i)) :: frV fr σ) H5) →
      tt (some (.int (lo + i)) :: frV fr σ) H' fun b H4 => if b = true then te (some (.int (lo + i)) :: frV fr σ) H4 fun v H5 => ∃ ys, H5 D = some (.lst ys) ∧ ys.length < sizeLine ∧ N (some (.int (lo + i)) :: frV fr σ) (upd H5 D (.lst (ys ++ [v]))) else N (some (.int (lo + i)) :: frV fr σ) H4)
    (fin : ∀ D, H D = none → ∀ ys H', Pv D (hi - lo).toNat ys H' → H' D = some (.lst ys) → De.nx (σ.set j (some (.ref D))) H') : tAsg (tComp 1 fr (iRng2 ta) (gName 0) tt te) (gName j) De σ H := by
  show tComp 1 fr (iRng2 ta) (gName 0) tt te σ H fun x H1 => De.nx (σ.set j (some x)) H1
  exact h _ ⟨lo, hi, rfl, hb, fun D hD => comp_range (lo := lo) (n := (hi - lo).toNat) (Q := fun x H1 => De.nx (σ.set j (some x)) H1) (Pv D) (small1000 hn) (h0 D hD) (step D hD) (fin D hD)⟩
end L2
namespace RC
open PySem L2
theorem newLs_cod {K : PySem.W.Frag} {H : Hp} {xs : List V} {cs : List (List Line)} (h : Paired (NewL H) xs cs) : Paired (CodR K H) xs cs := Paired.imp (fun _ _ q => q.cod) h
theorem codRs_same {K : PySem.W.Frag} {H H' : Hp} {xs : List V} {cs : List (List Line)} (s : Same H H') (h : Paired (CodR K H) xs cs) : Paired (CodR K H') xs cs := Paired.imp (fun _ _ q => q.same s) h
end RC
namespace K
open PySem L2 RC
structure TxtG (K : PySem.W.Frag) (mg : Str → Option Value) (CP : Addr) : Prop where
  cl : Cls K CP
  nM : NoAttr K CP "many"
  nN : NoAttr K CP "names"
  nF : NoAttr K CP "firsts"
  nC : NoAttr K CP "codes"
  mgG : mg "Program" = some (.ref CP)
theorem n_mn : ¬ (("many" : Str) = "names") := by decide +kernel
theorem n_mf : ¬ (("many" : Str) = "firsts") := by decide +kernel
theorem n_mc : ¬ (("many" : Str) = "codes") := by decide +kernel
theorem n_fc : ¬ (("firsts" : Str) = "codes") := by decide +kernel
def pflds (m n : Nat) (tf tc : Addr) : List (Str × V) := putF "codes" (.ref tc) (putF "firsts" (.ref tf) (putF "names" (.int (n : Int)) (putF "many" (.int (m : Int)) [])))
theorem pflds_c (m n : Nat) (tf tc : Addr) : (pflds m n tf tc).lookup ("codes" : Str) = some (.ref tc) := by
  unfold pflds
  rw [lookup_putF, if_pos rfl]
theorem pflds_f (m n : Nat) (tf tc : Addr) : (pflds m n tf tc).lookup ("firsts" : Str) = some (.ref tf) := by
  unfold pflds
  rw [lookup_putF, if_neg n_fc, lookup_putF, if_pos rfl]
theorem pflds_m (m n : Nat) (tf tc : Addr) : (pflds m n tf tc).lookup ("many" : Str) = some (.int (m : Int)) := by
  unfold pflds
  rw [lookup_putF, if_neg n_mc, lookup_putF, if_neg n_mf, lookup_putF, if_neg n_mn, lookup_putF, if_pos rfl]
theorem pflds_no (m n : Nat) (tf tc : Addr) {x : Str} (h1 : ¬ x = "codes") (h2 : ¬ x = "firsts") (h3 : ¬ x = "names") (h4 : ¬ x = "many") : (pflds m n tf tc).lookup x = none := by
  unfold pflds
  rw [lookup_putF, if_neg h1, lookup_putF, if_neg h2, lookup_putF, if_neg h3, lookup_putF, if_neg h4]
  all_goals rfl
theorem lk_codeB (m n : Nat) (tf tc : Addr) : (pflds m n tf tc).lookup ("code" : Str) = none := pflds_no _ _ _ _ (by decide +kernel) (by decide +kernel) (by decide +kernel) (by decide +kernel)
theorem lk_lineB (m n : Nat) (tf tc : Addr) : (pflds m n tf tc).lookup ("line" : Str) = none := pflds_no _ _ _ _ (by decide +kernel) (by decide +kernel) (by decide +kernel) (by decide +kernel)
theorem lk_fvB (m n : Nat) (tf tc : Addr) : (pflds m n tf tc).lookup ("first_values" : Str) = none := pflds_no _ _ _ _ (by decide +kernel) (by decide +kernel) (by decide +kernel) (by decide +kernel)
structure ProgAt (CP : Addr) (H : Hp) (p : Addr) (fs : List Int) (cs : List (List Line)) : Prop where
  ex : ∃ dx tf tc vs, H p = some (.ins CP dx (pflds cs.length fs.length tf tc)) ∧ H tf = some (.tup (fs.map V.int)) ∧ H tc = some (.tup vs) ∧ Paired (NewT H) vs cs
theorem ProgAt.ls {CP : Addr} {H H' : Hp} {p : Addr} {fs : List Int} {cs : List (List Line)} (s : LSame H H') (h : ProgAt CP H p fs cs) : ProgAt CP H' p fs cs := by
  obtain ⟨dx, tf, tc, vs, e1, e2, e3, e4⟩ := h.ex
  exact ⟨dx, tf, tc, vs, s _ _ e1 (by intro xs z; cases z), s.ts _ _ e2, s.ts _ _ e3, RC.Paired.imp (fun _ _ q => q.ts s.ts) e4⟩
theorem ProgAt.same {CP : Addr} {H H' : Hp} {p : Addr} {fs : List Int} {cs : List (List Line)} (s : Same H H') (h : ProgAt CP H p fs cs) : ProgAt CP H' p fs cs := h.ls (LSame.of s)
def spProg (K : PySem.W.Frag) (CP : Addr) : Sp := fun vs H Q _ => ∃ (p dx lv lc : Addr) (fs : List Int) (cs : List (List Line)) (xs : List V), vs = [.ref p, .ref lv, .ref lc] ∧ H p = some (.ins CP dx []) ∧ SqL K H lv (fs.map V.int) ∧ SqL K H lc xs ∧ Paired (CodR K H) xs cs ∧ GoodP fs cs ∧
  ∀ H', ProgAt CP H' p fs cs → (∀ b o, H b = some o → b ≠ p → H' b = some o) → Q .non H'
def spFirsts (CP : Addr) : Sp := fun vs H Q _ => ∃ (p : Addr) (fs : List Int) (cs : List (List Line)), vs = [.ref p] ∧ ProgAt CP H p fs cs ∧ ∀ l, H l = none → Q (.ref l) (upd H l (.lst (fs.map V.int)))
def spCode (CP : Addr) : Sp := fun vs H Q _ => ∃ (p : Addr) (fs : List Int) (cs : List (List Line)) (t : Nat) (ls : List Line), vs = [.ref p, .int (t : Int)] ∧ ProgAt CP H p fs cs ∧ cs[t]? = some ls ∧ ∀ l us, H l = none → LinesAt H us ls → Q (.ref l) (upd H l (.lst us))
def LnO (H : Hp) (v : V) : Option Line → Prop
  | none => v = .non
  | some l => LineAt H v l
def spPLine (CP : Addr) : Sp := fun vs H Q _ => ∃ (p : Addr) (fs : List Int) (cs : List (List Line)) (t : Nat) (ls : List Line) (k : Int), vs = [.ref p, .int (t : Int), .int k] ∧ ProgAt CP H p fs cs ∧ cs[t]? = some ls ∧ ∀ v, LnO H v (if 0 ≤ k then ls[k.toNat]? else none) → Q v H
theorem ndC1 : (["code"] : List Str).Nodup := by decide +kernel
section
variable {P : Program} {w : World} {K : PySem.W.Frag} {mg : Str → Option Value} {base : Heap}
theorem scProg : FnScope ["self", "values", "codes", "limits", "code", "line"] ["self", "values", "codes"] (defScope s_Program___init__) := ⟨rfl, rfl, rfl, by decide +kernel, rfl, by decide +kernel, by decide +kernel⟩
theorem ok_prog {f aP aS aT CP fM fL : Addr} {fd fdM fdL : FuncData} (F : Fun K "__init__" "Program.__init__" s_Program___init__ f fd) (B : TxB mg) (T : TxtP P w K mg aP aS aT) (R : TxtG K mg CP)
    (GM : FnOk P w K mg base CX0 1 fM fdM ["many", "names"] spLim) (cM : Cal K mg "limits_of" fM fdM ["many", "names"])
    (GL : FnOk P w K mg base CX0 3 fL fdL ["limits", "line"] spLine) (cL : Cal K mg "is_line" fL fdL ["limits", "line"]) : FnOk P w K mg base CX0 4 f fd ["self", "values", "codes"] (spProg K CP) := by
  refine F.ok scProg (fun vs H Q E h => ?_) (fun cdv A outer s H vs Q E hr h => ?_)
  · obtain ⟨p, dx, lv, lc, fs, cs, xs, rfl, _⟩ := h
    rfl
  · obtain ⟨p, dx, lv, lc, fs, cs, xs, rfl, hp, hv, hc, hcs, G, k⟩ := h
    have nd := scProg.nd
    have hr1 : Room 1 _ := hr.mono (by decide)
    obtain ⟨t1, h1⟩ := T.mnm
    obtain ⟨t2, h2⟩ := T.mth
    obtain ⟨t3, h3⟩ := T.mln
    have hxl := RC.Paired.len hcs
    refine ⟨_, pss_cons (ps_if (pt_not (pt_chain op_le op_le pe_int (pe_callB call_len_seq (by rfl) B.len PySem.boot_len (pa_cons (pv 1) pa_nil)) (pe_glob rfl h1 (v := .int 4) ⟨_, rfl⟩))) pss_never pss_nil)
      (pss_cons (ps_if (pt_not (pt_chain op_le op_le pe_int (pe_callB call_len_seq (by rfl) B.len PySem.boot_len (pa_cons (pv 2) pa_nil)) (pe_glob rfl h2 (v := .int 3) ⟨_, rfl⟩))) pss_never pss_nil)
      (pss_cons (ps_set (i := 3) nd rfl (Or.inl rfl) (pe_call GM hr1 rfl cM.mgf cM.kp cM.b .nil pass0 (pa_cons (pe_callB call_len_seq (by rfl) B.len PySem.boot_len (pa_cons (pv 2) pa_nil)) (pa_cons (pe_callB call_len_seq (by rfl) B.len PySem.boot_len (pa_cons (pv 1) pa_nil)) pa_nil))))
      (pss_cons (ps_for PassesOwn.never rfl (pi_list (pv 2)) (pg_name (i := 4) nd rfl (Or.inl rfl))
        (pss_cons (ps_if (pt_cmpR op_gt (pe_callB call_len_seq (by rfl) B.len PySem.boot_len (pa_cons (pv 4) pa_nil)) (pe_glob rfl h3 (v := .int 8) ⟨_, rfl⟩) (nomark _)) pss_never pss_nil)
        (pss_one (ps_for PassesOwn.never rfl (pi_list (pv 4)) (pg_name (i := 5) nd rfl (Or.inl rfl)) (pss_one (ps_if (pt_not (pt_val (pe_call GL hr rfl cL.mgf cL.kp cL.b .nil pass0 (pa_cons (pv 3) (pa_cons (pv 5) pa_nil))))) pss_never pss_nil))))))
      (pss_cons (ps_fld (pv 0) (pe_callB call_len_seq (by rfl) B.len PySem.boot_len (pa_cons (pv 2) pa_nil)) rfl)
      (pss_cons (ps_fld (pv 0) (pe_callB call_len_seq (by rfl) B.len PySem.boot_len (pa_cons (pv 1) pa_nil)) rfl)
      (pss_cons (ps_fld (pv 0) (pe_callTy call_tuple_of rfl B.tup bTuple (pa_cons (pv 1) pa_nil)) rfl)
      (pss_one (ps_fld (pv 0) (pe_callTy call_tuple_of rfl B.tup bTuple (pa_cons (pe_comp (N := ["code"]) (nt := 1) (fr := []) (te := tCB (rTupO K) (tCons (tVar 0) tNil)) rfl
          (.of (XN := ["self", "values", "codes", "limits", "code", "line"]) (osc := defScope s_Program___init__) rfl rfl rfl (by decide +kernel) (by decide +kernel) (by decide +kernel) rfl (by decide +kernel)) (pi_list (pv 2))
          (fun _ _ _ _ _ _ => ⟨pg_name (i := 0) ndC1 rfl (Or.inl rfl) (Or.inr rfl), pif_nil, pe_callTy call_tupO rfl B.tup bTuple (pa_cons (pv 0) pa_nil)⟩)) pa_nil)) rfl)))))))), ?_⟩
    refine PuT.ifs (c := False) (PuT.not (a := true) ((PuE.chainL (x := 1) (y := (fs.length : Int)) (z := 4) (fun Q q => q) (fun Q q => ⟨_, rfl, lv, _, rfl, .inl hv, by rw [List.length_map]; exact q⟩) (fun Q q => q)).eq (by rw [decide_eq_true]; exact ⟨by have := G.f1; omega, by have := G.f4; omega⟩)).test) (fun z => z.elim) (fun _ => ?_)
    refine PuT.ifs (c := False) (PuT.not (a := true) ((PuE.chainL (x := 1) (y := (cs.length : Int)) (z := 3) (fun Q q => q) (fun Q q => ⟨_, rfl, lc, _, rfl, .inl hc, by rw [hxl]; exact q⟩) (fun Q q => q)).eq (by rw [decide_eq_true]; exact ⟨by have := G.c1; omega, by have := G.c3; omega⟩)).test) (fun z => z.elim) (fun _ => ?_)
    refine ⟨_, rfl, lc, _, rfl, .inl hc, _, rfl, lv, _, rfl, .inl hv, (cs.length : Int), (fs.length : Int), by rw [List.length_map, hxl]; rfl, fun lm nlm => ?_⟩
    dsimp only [gName]
    have s1 : Same H (upd H lm (.dK (limK (cs.length : Int) (fs.length : Int)))) := same_new nlm
    have elm : upd H lm (.dK (limK (cs.length : Int) (fs.length : Int))) lm = some (.dK (limK (cs.length : Int) (fs.length : Int))) := upd_same
    generalize upd H lm (.dK (limK (cs.length : Int) (fs.length : Int))) = H1 at s1 elm
    refine ⟨_, rfl, lc, rfl, ⟨_, s1.seq hc⟩, for_list (K := K) (a := lc) (xs := xs) (fun i σ H2 => ∃ v4 v5 : Option V, σ = [some (.ref p), some (.ref lv), some (.ref lc), some (.ref lm), v4, v5] ∧ Same H1 H2) ⟨none, none, rfl, Same.refl _⟩ (fun i σ H2 _ ⟨_, _, _, s2⟩ => s2.seq (s1.seq hc)) ?_ ?_⟩
    · rintro i x σ H2 hx ⟨v4, v5, rfl, s2⟩
      dsimp only [gName]
      obtain ⟨ls, els, c, us, rfl, hu, hl⟩ := RC.Paired.get hcs hx
      have hm : ls ∈ cs := List.mem_of_getElem? els
      have s12 := s1.trans s2
      have hul := RC.Paired.len hl
      refine PuT.ifs (c := False) (fun Qt q => ⟨_, rfl, c, us, rfl, .inl (s12.seq hu), _, _, rfl, rfl, _, rfl, by
        rw [decide_eq_false (by have := G.l8 ls hm; omega)]
        exact q⟩) (fun z => z.elim) (fun _ => ?_)
      refine ⟨_, rfl, c, rfl, ⟨_, s12.seq hu⟩, for_list (K := K) (a := c) (xs := us) (fun j σ H3 => ∃ v5 : Option V, σ = [some (.ref p), some (.ref lv), some (.ref lc), some (.ref lm), some (.ref c), v5] ∧ Same H2 H3) ⟨v5, rfl, Same.refl _⟩ (fun j σ H3 _ ⟨_, _, s3⟩ => s3.seq (s12.seq hu)) ?_ ?_⟩
      · rintro j y σ H3 hy ⟨v5, rfl, s3⟩
        dsimp only [gName]
        obtain ⟨l, el, hll⟩ := RC.Paired.get hl hy
        have ok := G.ok ls hm l (List.mem_of_getElem? el)
        refine PuS.if1 (c := False) (PuS.not (a := true) (fun Qt q => ⟨_, rfl, _, rfl, lm, (cs.length : Int), (fs.length : Int), y, l, rfl, s3 _ _ (s2 _ _ elm), LineAt.ts (TSame.of (s12.trans s3)) hll, okLine_ty ok, fun H' s' => ⟨true, by rw [ok], q H' s'⟩⟩)) (fun _ _ z => z.elim) (fun H4 s4 _ => ⟨_, rfl, s3.trans s4⟩)
      · rintro σ H3 ⟨v5, rfl, s3⟩
        exact ⟨_, _, rfl, s2.trans s3⟩
    · rintro σ H2 ⟨v4, v5, rfl, s2⟩
      have s12 := s1.trans s2
      have hp2 := s12 _ _ hp
      refine ⟨_, rfl, lc, _, rfl, .inl (s12.seq hc), _, rfl, p, CP, dx, [], rfl, hp2, R.cl, R.nM, (by show 0 < 1000; decide), ?_⟩
      have sq : ∀ {a : Addr} {us : List V} (o : HO), SqL K H a us → SqL K (upd H2 p o) a us := fun {a us} o h => by
        rcases h with (h | ⟨o', h⟩) | h
        · exact .inl (.inl (by rw [upd_ne (ne_of h hp (by intro z; cases z))]; exact s12 _ _ h))
        · exact .inl (.inr ⟨o', by rw [upd_ne (ne_of h hp (by intro z; cases z))]; exact s12 _ _ h⟩)
        · exact .inr h
      refine ⟨_, rfl, lv, _, rfl, .inl (sq _ hv), _, rfl, p, CP, dx, _, rfl, upd_same, R.cl, R.nN, (by show 1 < 1000; decide), ?_⟩
      rw [upd_upd]
      refine ⟨_, rfl, lv, _, rfl, .inl ⟨sq _ hv, fun tf ntf => ?_⟩⟩
      obtain ⟨ntp, nt0⟩ : tf ≠ p ∧ H2 tf = none := by
        by_cases e : tf = p
        · rw [e, upd_same] at ntf; cases ntf
        · rw [upd_ne e] at ntf; exact ⟨e, ntf⟩
      refine ⟨_, rfl, p, CP, dx, _, rfl, (by rw [upd_ne ntp.symm, upd_same]), R.cl, R.nF, (by show 2 < 1000; decide), ?_⟩
      rw [hxl, List.length_map]
      generalize hO : HO.ins CP dx (putF "firsts" (V.ref tf) (putF "names" (V.int (fs.length : Int)) (putF "many" (V.int (cs.length : Int)) []))) = oo
      generalize hH3 : upd (upd (upd H2 p _) tf _) p oo = H3
      have k3 : ∀ b o, H2 b = some o → b ≠ p → H3 b = some o := fun b o e hb => by
        rw [← hH3, upd_ne hb, upd_ne (ne_of_none e nt0), upd_ne hb]
        exact e
      have ep3 : H3 p = some oo := by rw [← hH3, upd_same]
      have et3 : H3 tf = some (.tup (fs.map V.int)) := by rw [← hH3, upd_ne ntp, upd_same]
      have sq3 : ∀ {a : Addr} {us : List V}, SqL K H a us → SqL K H3 a us := fun {a us} h => by
        rcases h with (h | ⟨o', h⟩) | h
        · exact .inl (.inl (k3 _ _ (s12 _ _ h) (ne_of h hp (by intro z; cases z))))
        · exact .inl (.inr ⟨o', k3 _ _ (s12 _ _ h) (ne_of h hp (by intro z; cases z))⟩)
        · exact .inr h
      have ts3 : TSame H H3 := fun b ys e => k3 _ _ (s12 _ _ e) (ne_of e hp (by intro z; cases z))
      clear hH3 sq
      dsimp only [sFld, tCB, tCons, tNil]
      rw [tComp_iff]
      refine ⟨_, rfl, lc, rfl, ⟨_, sq3 hc⟩, comp_rel NewT cs (by rw [sizeLine_eq]; have := G.c3; omega) (sq3 hc) hxl (fun _ _ _ _ => NewT.m1) (fun _ _ _ _ _ _ => NewT.m2) (fun i x ls H' Qe hx hb s' q => ?_) (fun D ys H' hD s' eD hP _ _ => ?_)⟩
      · obtain ⟨ls', els, c, us, rfl, hu, hl⟩ := RC.Paired.get hcs hx
        rw [hb] at els
        cases els
        refine ⟨_, rfl, c, us, rfl, .inl ⟨s'.seq (sq3 hu), fun l nl => q _ _ (same_new nl) ⟨l, rfl, us, upd_same, ?_⟩ (fun c e => by cases e; exact nl)⟩⟩
        exact LinesAt.ts (TSame.of (same_new nl)) (LinesAt.ts (TSame.of s') (LinesAt.ts ts3 hl))
      · refine ⟨D, ys, rfl, .inl ⟨SqL.of eD, fun tc ntc => ?_⟩⟩
        have epc : upd H' tc (.tup ys) p = some oo := same_new ntc _ _ (s' _ _ ep3)
        refine ⟨_, rfl, p, CP, dx, _, rfl, (by rw [epc, ← hO]), R.cl, R.nC, (by show 3 < 1000; decide), ?_⟩
        have sc : Same H3 (upd H' tc (.tup ys)) := s'.trans (same_new ntc)
        refine k _ ⟨dx, tf, tc, ys, upd_same, ?_, ?_, ?_⟩ (fun b o e hb => ?_)
        · rw [upd_ne ntp]; exact sc _ _ et3
        · rw [upd_ne (fun e => by rw [e] at epc; rw [upd_same] at epc; rw [← hO] at epc; cases epc), upd_same]
        · refine RC.Paired.imp (fun _ _ q => NewT.ts (fun b zs e => ?_) (NewT.m1 (same_new (o := .tup ys) ntc) q)) hP
          rw [upd_ne (ne_of e epc (by rw [← hO]; intro z; cases z))]
          exact e
        · rw [upd_ne hb]
          exact sc _ _ (k3 _ _ (s12 _ _ e) hb)
theorem prog_made {CP lv lc x dx : Addr} {H : Hp} {fs : List Int} {cs : List (List Line)} {xs : List V} {Q : VK} {E : XK} (nx : H x = none) (ndx : H dx = none) (hv : SqL K H lv (fs.map V.int)) (hc : SqL K H lc xs) (hcs : Paired (CodR K H) xs cs) (G : GoodP fs cs)
    (k : ∀ H', Same H H' → ProgAt CP H' x fs cs → Q .non H') : spProg K CP (.ref x :: ([.ref lv, .ref lc] ++ [])) (upd (upd H dx (.own x)) x (.ins CP dx [])) Q E := by
  have s0 : Same H (upd (upd H dx (.own x)) x (.ins CP dx [])) := fun b o e => by
    rw [upd_ne (ne_of_none e nx), upd_ne (ne_of_none e ndx)]
    exact e
  exact ⟨x, dx, lv, lc, fs, cs, xs, rfl, upd_same, s0.seq hv, s0.seq hc, codRs_same s0 hcs, G, fun H' R kp => k H' (fun b o e => kp b o (s0 b o e) (ne_of_none e nx)) R⟩
theorem scFirsts : FnScope ["self"] ["self"] (defScope s_Program_first_values) := ⟨rfl, rfl, rfl, by decide +kernel, rfl, by decide +kernel, by decide +kernel⟩
theorem ok_firsts {f CP : Addr} {fd : FuncData} (F : Fun K "first_values" "Program.first_values" s_Program_first_values f fd) (B : TxB mg) (R : TxtG K mg CP) : FnOk P w K mg base CX0 1 f fd ["self"] (spFirsts CP) := by
  refine F.ok scFirsts (fun vs H Q E h => ?_) (fun cdv A outer s H vs Q E hr h => ?_)
  · obtain ⟨p, fs, cs, rfl, _⟩ := h
    rfl
  · obtain ⟨p, fs, cs, rfl, hP, k⟩ := h
    obtain ⟨dx, tf, tc, vs, e1, e2, e3, e4⟩ := hP.ex
    refine ⟨_, pss_one (ps_ret (pe_callTy call_list_of rfl B.lst bList (pa_cons (pe_fld (pv 0) rfl) pa_nil))), ?_⟩
    exact ⟨_, rfl, p, CP, dx, _, _, rfl, e1, R.cl, R.nF, pflds_f _ _ _ _, tf, _, rfl, .inr (SqT.of e2), k⟩
theorem scCode : FnScope ["self", "thread"] ["self", "thread"] (defScope s_Program_code) := ⟨rfl, rfl, rfl, by decide +kernel, rfl, by decide +kernel, by decide +kernel⟩
theorem ok_code {f CP : Addr} {fd : FuncData} (F : Fun K "code" "Program.code" s_Program_code f fd) (B : TxB mg) (R : TxtG K mg CP) : FnOk P w K mg base CX0 1 f fd ["self", "thread"] (spCode CP) := by
  refine F.ok scCode (fun vs H Q E h => ?_) (fun cdv A outer s H vs Q E hr h => ?_)
  · obtain ⟨p, fs, cs, t, ls, rfl, _⟩ := h
    rfl
  · obtain ⟨p, fs, cs, t, ls, rfl, hP, el, k⟩ := h
    obtain ⟨dx, tf, tc, vs, e1, e2, e3, e4⟩ := hP.ex
    obtain ⟨v, ev, c, rfl, us, ec, hl⟩ := RC.Paired.get' e4 el
    refine ⟨_, pss_one (ps_ret (pe_callTy call_list_of rfl B.lst bList (pa_cons (pe_ix ix_tup (pe_fld (pv 0) rfl) (pv 1) (fun _ _ => rfl)) pa_nil))), ?_⟩
    exact ⟨_, rfl, p, CP, dx, _, _, rfl, e1, R.cl, R.nC, pflds_c _ _ _ _, _, rfl, tc, _, _, .ref c, rfl, rfl, SqT.of e3, atI_nat ev, c, us, rfl, .inr (SqT.of ec), fun l nl => k l us nl hl⟩
theorem scPLine : FnScope ["self", "thread", "number"] ["self", "thread", "number"] (defScope s_Program_line) := ⟨rfl, rfl, rfl, by decide +kernel, rfl, by decide +kernel, by decide +kernel⟩
theorem ok_pline {f CP : Addr} {fd : FuncData} (F : Fun K "line" "Program.line" s_Program_line f fd) (B : TxB mg) (R : TxtG K mg CP) : FnOk P w K mg base CX0 1 f fd ["self", "thread", "number"] (spPLine CP) := by
  refine F.ok scPLine (fun vs H Q E h => ?_) (fun cdv A outer s H vs Q E hr h => ?_)
  · obtain ⟨p, fs, cs, t, ls, n, rfl, _⟩ := h
    rfl
  · obtain ⟨p, fs, cs, t, ls, n, rfl, hP, el, k⟩ := h
    obtain ⟨dx, tf, tc, vs, e1, e2, e3, e4⟩ := hP.ex
    obtain ⟨v, ev, c, rfl, us, ec, hl⟩ := RC.Paired.get' e4 el
    have hlen := RC.Paired.len hl
    have ht : t < cs.length := (List.getElem?_eq_some_iff.mp el).1
    refine ⟨_, pss_cons (ps_if (PW.pt (pw_and (pt_chain op_le op_lt pe_int (pv 1) (pe_fld (pv 0) rfl)) (pw_and1 (pt_chain op_le op_lt pe_int (pv 2) (pe_callB call_len_seq (by rfl) B.len PySem.boot_len (pa_cons (pe_ix ix_tup (pe_fld (pv 0) rfl) (pv 1) (fun _ _ => rfl)) pa_nil))))))
        (pss_one (ps_ret (pe_ix ix_tup (pe_ix ix_tup (pe_fld (pv 0) rfl) (pv 1) (fun _ _ => rfl)) (pv 2) (fun _ _ => rfl)))) pss_nil) (pss_one (ps_ret pe_non)), ?_⟩
    refine PuT.ifs (c := 0 ≤ n ∧ n < (ls.length : Int)) ((PuT.and (a := true) (b := decide (0 ≤ n ∧ n < (ls.length : Int)))
      ((PuE.chain (x := 0) (y := (t : Int)) (z := (cs.length : Int)) (fun Q q => q) (fun Q q => ⟨_, rfl, q⟩) (fun Q q => ⟨_, rfl, p, CP, dx, _, _, rfl, e1, R.cl, R.nM, pflds_m _ _ _ _, q⟩)).eq (by rw [decide_eq_true]; omega)).test
      (fun _ => (PuE.chain (fun Q q => q) (fun Q q => ⟨_, rfl, q⟩) (fun Q q => ⟨_, rfl, p, CP, dx, _, _, rfl, e1, R.cl, R.nC, pflds_c _ _ _ _, _, rfl, tc, _, _, .ref c, rfl, rfl, SqT.of e3, atI_nat ev, c, us, rfl, .inr (SqT.of ec), by rw [hlen]; exact q⟩)).test)).iff (by simp)) (fun z => ?_) (fun z => ?_)
    · obtain ⟨j, rfl⟩ : ∃ j : Nat, n = j := ⟨n.toNat, by omega⟩
      have hj : j < ls.length := by omega
      have ej : ls[j]? = some ls[j] := by simp [hj]
      obtain ⟨u, eu, hu⟩ := RC.Paired.get' hl ej
      refine ⟨_, rfl, p, CP, dx, _, _, rfl, e1, R.cl, R.nC, pflds_c _ _ _ _, _, rfl, tc, _, _, .ref c, rfl, rfl, SqT.of e3, atI_nat ev, _, rfl, c, us, _, u, rfl, rfl, SqT.of ec, atI_nat eu, k u ?_⟩
      rw [if_pos (by omega), show ((j : Int)).toNat = j from rfl, ej]
      exact hu
    · refine k .non ?_
      by_cases h0 : 0 ≤ n
      · rw [if_pos h0, List.getElem?_eq_none (by omega)]
        rfl
      · rw [if_neg h0]
        rfl
end
end K
namespace K
open PySem L2 RC
def spLV : Sp := fun vs H Q _ => ∃ n : Int, vs = [.int n] ∧ ∀ r k m, okVal k [m] = true → H r = none → Q (.ref r) (upd H r (.tup [.str k, .int m]))
def spLL : Sp := fun vs H Q _ => ∃ c m n : Int, vs = [.int c, .int m, .int n] ∧ 1 ≤ m ∧ m ≤ 3 ∧ 1 ≤ n ∧ n ≤ 4 ∧ ∀ u l H', Same H H' → LineAt H' u l → okLine m n l = true → Q u H'
def spCodes (K : PySem.W.Frag) : Sp := fun vs H Q _ => ∃ (a : Addr) (m n : Int) (ns : List Int), vs = [.ref a, .int m, .int n] ∧ SqL K H a (ns.map V.int) ∧ 1 ≤ m ∧ m ≤ 3 ∧ 1 ≤ n ∧ n ≤ 4 ∧
  ∀ r xs cs H', Same H H' → H r = none → H' r = some (.lst xs) → Paired (NewL H') xs cs → (∀ c, (.ref c : V) ∈ xs → H c = none ∧ c ≠ r) → (cs.length : Int) = m → (∀ ls ∈ cs, ls.length ≤ 8) → (∀ ls ∈ cs, ∀ l ∈ ls, okLine m n l = true) → Q (.ref r) H'
def spFs (K : PySem.W.Frag) : Sp := fun vs H Q _ => ∃ (a : Addr) (n : Nat) (ns : List Int), vs = [.ref a, .int (n : Int)] ∧ SqL K H a (ns.map V.int) ∧ n ≤ 4 ∧ ∀ (r : Addr) (fs : List Int) (H' : Hp), Same H H' → H r = none → H' r = some (.lst (fs.map V.int)) → fs.length = n → Q (.ref r) H'
theorem one_of {x : Int} : ∀ {a b : Str}, (x = 0 ∨ x = 1) → ∃ s : Str, (s = a ∨ s = b) ∧ atI [V.str a, V.str b] x = some (.str s)
  | a, b, .inl e => ⟨a, .inl rfl, by rw [e]; rfl⟩
  | a, b, .inr e => ⟨b, .inr rfl, by rw [e]; rfl⟩
theorem okv_any {m n : Int} {k : Str} {x : Int} (h : okVal k [x] = true) : okPart m n "value" (.v k [x]) = true := by
  show (okVal k [x] && decide (("value" : Str) = "value")) = true
  rw [h]; decide +kernel
theorem k_read : kindsOf "read" = some (["own", "name"] : List Str) := by decide +kernel
theorem k_write : kindsOf "write" = some (["name", "value"] : List Str) := by decide +kernel
theorem k_set : kindsOf "set" = some (["own", "value", "sign", "value"] : List Str) := by decide +kernel
theorem k_skip : kindsOf "skip" = some (["value", "test", "value", "count"] : List Str) := by decide +kernel
theorem k_take : kindsOf "take" = some (["lock"] : List Str) := by decide +kernel
theorem k_give : kindsOf "give" = some (["lock"] : List Str) := by decide +kernel
theorem k_fork : kindsOf "fork" = some (["thread"] : List Str) := by decide +kernel
theorem k_wait : kindsOf "wait" = some (["thread"] : List Str) := by decide +kernel
theorem n1 : ¬ (("own" : Str) = "name") := by decide +kernel
theorem n2 : ¬ (("own" : Str) = "lock") := by decide +kernel
theorem n3 : ¬ (("name" : Str) = "lock") := by decide +kernel
theorem n4 : ¬ (("own" : Str) = "thread") := by decide +kernel
theorem n5 : ¬ (("name" : Str) = "thread") := by decide +kernel
theorem n6 : ¬ (("lock" : Str) = "thread") := by decide +kernel
theorem n7 : ¬ (("own" : Str) = "count") := by decide +kernel
theorem n8 : ¬ (("name" : Str) = "count") := by decide +kernel
theorem n9 : ¬ (("lock" : Str) = "count") := by decide +kernel
theorem n10 : ¬ (("thread" : Str) = "count") := by decide +kernel
theorem l_own (m n : Int) : limOf m n "own" = some 3 := if_pos rfl
theorem l_name (m n : Int) : limOf m n "name" = some n := by unfold limOf; rw [if_neg n1, if_pos rfl]
theorem l_lock (m n : Int) : limOf m n "lock" = some 3 := by unfold limOf; rw [if_neg n2, if_neg n3, if_pos rfl]
theorem l_thr (m n : Int) : limOf m n "thread" = some m := by unfold limOf; rw [if_neg n4, if_neg n5, if_neg n6, if_pos rfl]
theorem l_cnt (m n : Int) : limOf m n "count" = some 9 := by unfold limOf; rw [if_neg n7, if_neg n8, if_neg n9, if_neg n10, if_pos rfl]
theorem okI {m n b x : Int} {k : Str} (h : limOf m n k = some b) (h0 : 0 ≤ x) (h1 : x < b) : okPart m n k (.i x) = true := by
  show (match limOf m n k with | some b => decide (0 ≤ x ∧ x < b) | none => false) = true
  rw [h]
  exact decide_eq_true ⟨h0, h1⟩
theorem okS {m n : Int} {x : Str} (h : x = "+" ∨ x = "-") : okPart m n "sign" (.s x) = true := by
  show (if ("sign" : Str) = "sign" then decide (x = "+") || decide (x = "-") else if ("sign" : Str) = "test" then decide (x = "==") || decide (x = "<") else false) = true
  rw [if_pos rfl]
  rcases h with e | e
  · rw [decide_eq_true e]; rfl
  · rw [decide_eq_true e, Bool.or_true]
theorem okT {m n : Int} {x : Str} (h : x = "==" ∨ x = "<") : okPart m n "test" (.s x) = true := by
  show (if ("test" : Str) = "sign" then decide (x = "+") || decide (x = "-") else if ("test" : Str) = "test" then decide (x = "==") || decide (x = "<") else false) = true
  rw [if_neg n_ts, if_pos rfl]
  rcases h with e | e
  · rw [decide_eq_true e]; rfl
  · rw [decide_eq_true e, Bool.or_true]
theorem okL {m n : Int} {l : Line} {ks : List Str} (h : kindsOf l.1 = some ks) (p : okParts m n ks l.2 = true) : okLine m n l = true := by
  unfold okLine
  rw [h]
  exact p
section
variable {P : Program} {w : World} {K : PySem.W.Frag} {mg : Str → Option Value} {base : Heap}
theorem scLV : FnScope ["_law_number"] ["_law_number"] (defScope s__law_value) := ⟨rfl, rfl, rfl, by decide +kernel, rfl, by decide +kernel, by decide +kernel⟩
theorem ok_lv {f : Addr} {fd : FuncData} (F : Fun K "_law_value" "_law_value" s__law_value f fd) : FnOk P w K mg base CX0 1 f fd ["_law_number"] spLV := by
  refine F.ok scLV (fun vs H Q E h => ?_) (fun cdv A outer s H vs Q E hr h => ?_)
  · obtain ⟨n, rfl, _⟩ := h
    rfl
  · obtain ⟨n, rfl, k⟩ := h
    refine ⟨_, pss_cons (ps_if (pt_cmpR op_eq (pe_op op_mod (pv 0) pe_int) pe_int (nomark _)) (pss_one (ps_ret (pe_tup (pa_cons pe_str (pa_cons (pe_op op_mod (pe_op op_fdiv (pv 0) pe_int) pe_int) pa_nil))))) pss_nil)
      (pss_cons (ps_if (pt_cmpR op_eq (pe_op op_mod (pv 0) pe_int) pe_int (nomark _)) (pss_one (ps_ret (pe_tup (pa_cons pe_str (pa_cons (pe_op op_sub (pe_op op_mod (pe_op op_fdiv (pv 0) pe_int) pe_int) pe_int) pa_nil))))) pss_nil)
      (pss_one (ps_ret (pe_tup (pa_cons pe_str (pa_cons (pe_op op_sub (pe_op op_mod (pe_op op_fdiv (pv 0) pe_int) (pe_op op_sub (pe_op op_mul pe_int (pe_op op_pow pe_int pe_int)) pe_int)) (pe_op op_sub (pe_op op_pow pe_int pe_int) pe_int)) pa_nil)))))), ?_⟩
    have on : ∀ m, okVal "number" [m] = true := fun m => by
      show (decide (("number" : Str) = "number") || (decide (("number" : Str) = "own") && decide (0 ≤ m ∧ m < 3))) = true
      rw [decide_eq_true (p := (("number" : Str) = "number")) rfl]; rfl
    refine PuT.ifs (c := n % 3 = 0) (fun Qt q => ⟨_, rfl, _, _, rfl, rfl, (by show (0 : Int) < 3; decide), rfl, _, rfl, by rw [dec_int']; exact q⟩) (fun _ => ?_) (fun _ => ?_)
    · refine ⟨_, rfl, _, _, rfl, rfl, ⟨by decide, by decide⟩, _, _, rfl, rfl, (by show (0 : Int) < 3; decide), (by show 2 ≤ sizeLine; decide), fun r nr => k r _ _ ?_ nr⟩
      show (decide (("own" : Str) = "number") || (decide (("own" : Str) = "own") && decide (0 ≤ n / 3 % 3 ∧ n / 3 % 3 < 3))) = true
      rw [decide_eq_true (p := (("own" : Str) = "own")) rfl, decide_eq_true (p := 0 ≤ n / 3 % 3 ∧ n / 3 % 3 < 3) ⟨by omega, by omega⟩, Bool.and_true, Bool.or_true]
    refine PuT.ifs (c := n % 3 = 1) (fun Qt q => ⟨_, rfl, _, _, rfl, rfl, (by show (0 : Int) < 3; decide), rfl, _, rfl, by rw [dec_int']; exact q⟩) (fun _ => ?_) (fun _ => ?_)
    · exact ⟨_, rfl, _, _, rfl, rfl, ⟨by decide, by decide⟩, _, _, rfl, rfl, (by show (0 : Int) < 5; decide), _, _, rfl, rfl, (by show 2 ≤ sizeLine; decide), fun r nr => k r _ _ (on _) nr⟩
    · exact ⟨_, rfl, _, _, rfl, rfl, ⟨by decide, by decide⟩, _, _, rfl, rfl, ⟨by decide, by decide, by decide⟩, _, _, rfl, rfl, .inl ⟨by decide, by decide⟩, _, _, rfl, rfl, _, _, rfl, rfl, (by show (0 : Int) < 2 * 10 ^ (60 : Int).toNat - 1; decide), _, _, rfl, rfl, ⟨by decide, by decide, by decide⟩, _, _, rfl, rfl, _, _, rfl, rfl, (by show 2 ≤ sizeLine; decide), fun r nr => k r _ _ (on _) nr⟩
theorem scLL : FnScope ["_law_cell", "_law_many", "_law_size", "_law_kind", "_law_number", "_law_sign", "_law_test"] ["_law_cell", "_law_many", "_law_size"] (defScope s__law_line) := ⟨rfl, rfl, rfl, by decide +kernel, rfl, by decide +kernel, by decide +kernel⟩
theorem ok_ll {f fV : Addr} {fd fdV : FuncData} (F : Fun K "_law_line" "_law_line" s__law_line f fd) (GV : FnOk P w K mg base CX0 1 fV fdV ["_law_number"] spLV) (cV : Cal K mg "_law_value" fV fdV ["_law_number"]) : FnOk P w K mg base CX0 2 f fd ["_law_cell", "_law_many", "_law_size"] spLL := by
  refine F.ok scLL (fun vs H Q E h => ?_) (fun cdv A outer s H vs Q E hr h => ?_)
  · obtain ⟨c, m, n, rfl, _⟩ := h
    rfl
  · obtain ⟨c, m, n, rfl, m1, m3, n1, n4, k⟩ := h
    have nd := scLL.nd
    have hr1 : Room 1 _ := hr.mono (by decide)
    refine ⟨_, pss_cons (ps_set (i := 3) nd rfl (Or.inl rfl) (pe_op op_mod (pv 0) pe_int)) (pss_cons (ps_set (i := 4) nd rfl (Or.inl rfl) (pe_op op_fdiv (pv 0) pe_int))
      (pss_cons (ps_if (pt_cmpR op_lt (pv 3) pe_int (nomark _)) (pss_one (ps_ret (pe_tup (pa_cons pe_str (pa_cons (pe_op op_mod (pv 4) pe_int) (pa_cons (pe_op op_mod (pe_op op_fdiv (pv 4) pe_int) (pv 2)) pa_nil)))))) pss_nil)
      (pss_cons (ps_if (pt_cmpR op_lt (pv 3) pe_int (nomark _)) (pss_one (ps_ret (pe_tup (pa_cons pe_str (pa_cons (pe_op op_mod (pv 4) (pv 2)) (pa_cons (pe_call GV hr1 rfl cV.mgf cV.kp cV.b .nil pass0 (pa_cons (pe_op op_fdiv (pv 4) (pv 2)) pa_nil)) pa_nil)))))) pss_nil)
      (pss_cons (ps_if (pt_cmpR op_eq (pv 3) pe_int (nomark _)) (pss_cons (ps_set (i := 5) nd rfl (Or.inl rfl) (pe_ix ix_list (pe_lst (pa_cons pe_str (pa_cons pe_str pa_nil))) (pe_op op_mod (pv 4) pe_int) (fun _ _ => rfl)))
        (pss_one (ps_ret (pe_tup (pa_cons pe_str (pa_cons (pe_op op_mod (pe_op op_fdiv (pv 4) pe_int) pe_int) (pa_cons (pe_call GV hr1 rfl cV.mgf cV.kp cV.b .nil pass0 (pa_cons (pe_op op_fdiv (pv 4) pe_int) pa_nil)) (pa_cons (pv 5) (pa_cons (pe_call GV hr1 rfl cV.mgf cV.kp cV.b .nil pass0 (pa_cons (pe_op op_fdiv (pv 4) pe_int) pa_nil)) pa_nil))))))))) pss_nil)
      (pss_cons (ps_if (pt_cmpR op_eq (pv 3) pe_int (nomark _)) (pss_cons (ps_set (i := 6) nd rfl (Or.inl rfl) (pe_ix ix_list (pe_lst (pa_cons pe_str (pa_cons pe_str pa_nil))) (pe_op op_mod (pv 4) pe_int) (fun _ _ => rfl)))
        (pss_one (ps_ret (pe_tup (pa_cons pe_str (pa_cons (pe_call GV hr1 rfl cV.mgf cV.kp cV.b .nil pass0 (pa_cons (pe_op op_fdiv (pv 4) pe_int) pa_nil)) (pa_cons (pv 6) (pa_cons (pe_call GV hr1 rfl cV.mgf cV.kp cV.b .nil pass0 (pa_cons (pe_op op_fdiv (pv 4) pe_int) pa_nil)) (pa_cons (pe_op op_mod (pe_op op_fdiv (pv 4) pe_int) pe_int) pa_nil))))))))) pss_nil)
      (pss_cons (ps_if (pt_cmpR op_lt (pv 3) pe_int (nomark _)) (pss_one (ps_ret (pe_tup (pa_cons (pe_ix ix_list (pe_lst (pa_cons pe_str (pa_cons pe_str pa_nil))) (pe_op op_sub (pv 3) pe_int) (fun _ _ => rfl)) (pa_cons (pe_op op_mod (pv 4) pe_int) pa_nil))))) pss_nil)
      (pss_one (ps_ret (pe_tup (pa_cons (pe_ix ix_list (pe_lst (pa_cons pe_str (pa_cons pe_str pa_nil))) (pe_op op_sub (pv 3) pe_int) (fun _ _ => rfl)) (pa_cons (pe_op op_mod (pv 4) (pv 1)) pa_nil))))))))))), ?_⟩
    refine ⟨_, rfl, _, _, rfl, rfl, (by show (0 : Int) < 10; decide), ?_⟩
    refine ⟨_, rfl, _, _, rfl, rfl, ⟨by decide, by decide⟩, ?_⟩
    dsimp only [gName]
    generalize c / 10 = x
    obtain ⟨kd, ekd, k0, k10⟩ : ∃ kd : Int, c % 10 = kd ∧ 0 ≤ kd ∧ kd < 10 := ⟨_, rfl, by omega, by omega⟩
    rw [ekd]
    clear ekd
    have two : ∀ y : Int, y % 2 = 0 ∨ y % 2 = 1 := fun y => by omega
    refine PuT.ifs (c := kd < 2) (fun Qt q => ⟨_, rfl, _, _, rfl, rfl, _, rfl, q⟩) (fun _ => ?_) (fun z0 => ?_)
    · refine ⟨_, rfl, _, _, rfl, rfl, (by show (0 : Int) < 3; decide), _, rfl, _, _, rfl, rfl, ⟨by decide, by decide⟩, _, rfl, _, _, rfl, rfl, (by show (0 : Int) < n; omega), (by show 3 ≤ sizeLine; decide), fun r nr => k (.ref r) ("read", [.i (x % 3), .i (x / 3 % n)]) _ (same_new nr) ⟨r, _, rfl, upd_same, .cons rfl (.cons rfl .nil)⟩ (okL k_read ?_)⟩
      have a1 := okI (m := m) (x := x % 3) (l_own m n) (by omega) (by omega)
      have a2 := okI (m := m) (x := x / 3 % n) (l_name m n) (Int.emod_nonneg _ (by omega)) (Int.emod_lt_of_pos _ (by omega))
      show (okPart m n "own" _ && (okPart m n "name" _ && true)) = true
      rw [a1, a2]; rfl
    refine PuT.ifs (c := kd < 4) (fun Qt q => ⟨_, rfl, _, _, rfl, rfl, _, rfl, q⟩) (fun _ => ?_) (fun z1 => ?_)
    · refine ⟨_, rfl, _, rfl, _, _, rfl, rfl, (by show (0 : Int) < n; omega), _, rfl, _, rfl, _, _, rfl, rfl, ⟨by omega, by omega⟩, _, rfl, fun rv kv mv ov nrv => ⟨(by show 3 ≤ sizeLine; decide), fun r nr => k (.ref r) ("write", [.i (x % n), .v kv [mv]]) _ ((same_new nrv).trans (same_new nr)) ⟨r, _, rfl, upd_same, .cons rfl (.cons ⟨rv, rfl, same_new nr _ _ upd_same⟩ .nil)⟩ (okL k_write ?_)⟩⟩
      have a1 := okI (m := m) (x := x % n) (l_name m n) (Int.emod_nonneg _ (by omega)) (Int.emod_lt_of_pos _ (by omega))
      show (okPart m n "name" _ && (okPart m n "value" _ && true)) = true
      rw [a1, okv_any ov]; rfl
    refine PuT.ifs (c := kd = 4) (fun Qt q => ⟨_, rfl, rfl, _, rfl, by rw [dec_int']; exact q⟩) (fun _ => ?_) (fun z2 => ?_)
    · obtain ⟨sg, osg, esg⟩ := one_of (a := "+") (b := "-") (two x)
      refine ⟨(by show 2 ≤ sizeLine; decide), fun a na => ⟨_, rfl, _, _, rfl, rfl, (by show (0 : Int) < 2; decide), a, _, _, _, rfl, rfl, SqL.of upd_same, esg, ?_⟩⟩
      dsimp only [gName]
      refine ⟨_, rfl, _, _, rfl, rfl, ⟨by decide, by decide⟩, _, _, rfl, rfl, (by show (0 : Int) < 3; decide), _, rfl, _, _, rfl, rfl, ⟨by decide, by decide⟩, _, rfl, fun r1 w1 y1 o1 f1 => ⟨_, rfl, _, rfl, _, _, rfl, rfl, ⟨by decide, by decide⟩, _, rfl, fun r2 w2 y2 o2 f2 => ⟨(by show 5 ≤ sizeLine; decide), fun r nr =>
        k (.ref r) ("set", [.i (x / 2 % 3), .v w1 [y1], .s sg, .v w2 [y2]]) _ ((same_new na).trans ((same_new f1).trans ((same_new f2).trans (same_new nr)))) ⟨r, _, rfl, upd_same, .cons rfl (.cons ⟨r1, rfl, same_new nr _ _ (same_new f2 _ _ upd_same)⟩ (.cons rfl (.cons ⟨r2, rfl, same_new nr _ _ upd_same⟩ .nil)))⟩ (okL k_set ?_)⟩⟩⟩
      have a1 := okI (m := m) (x := x / 2 % 3) (l_own m n) (by omega) (by omega)
      show (okPart m n "own" _ && (okPart m n "value" _ && (okPart m n "sign" _ && (okPart m n "value" _ && true)))) = true
      rw [a1, okv_any o1, okS osg, okv_any o2]; rfl
    refine PuT.ifs (c := kd = 5) (fun Qt q => ⟨_, rfl, rfl, _, rfl, by rw [dec_int']; exact q⟩) (fun _ => ?_) (fun z3 => ?_)
    · obtain ⟨sg, osg, esg⟩ := one_of (a := "==") (b := "<") (two x)
      refine ⟨(by show 2 ≤ sizeLine; decide), fun a na => ⟨_, rfl, _, _, rfl, rfl, (by show (0 : Int) < 2; decide), a, _, _, _, rfl, rfl, SqL.of upd_same, esg, ?_⟩⟩
      dsimp only [gName]
      refine ⟨_, rfl, _, _, rfl, rfl, ⟨by decide, by decide⟩, _, rfl, fun r1 w1 y1 o1 f1 => ⟨_, rfl, _, rfl, _, _, rfl, rfl, ⟨by decide, by decide⟩, _, rfl, fun r2 w2 y2 o2 f2 => ⟨_, rfl, _, _, rfl, rfl, ⟨by decide, by decide⟩, _, _, rfl, rfl, (by show (0 : Int) < 9; decide), (by show 5 ≤ sizeLine; decide), fun r nr =>
        k (.ref r) ("skip", [.v w1 [y1], .s sg, .v w2 [y2], .i (x / 2 % 9)]) _ ((same_new na).trans ((same_new f1).trans ((same_new f2).trans (same_new nr)))) ⟨r, _, rfl, upd_same, .cons ⟨r1, rfl, same_new nr _ _ (same_new f2 _ _ upd_same)⟩ (.cons rfl (.cons ⟨r2, rfl, same_new nr _ _ upd_same⟩ (.cons rfl .nil)))⟩ (okL k_skip ?_)⟩⟩⟩
      have a1 := okI (m := m) (x := x / 2 % 9) (l_cnt m n) (by omega) (by omega)
      show (okPart m n "value" _ && (okPart m n "test" _ && (okPart m n "value" _ && (okPart m n "count" _ && true)))) = true
      rw [a1, okv_any o1, okT osg, okv_any o2]; rfl
    refine PuT.ifs (c := kd < 8) (fun Qt q => ⟨_, rfl, _, _, rfl, rfl, _, rfl, q⟩) (fun z4 => ?_) (fun z4 => ?_)
    · obtain ⟨sg, osg, esg⟩ := one_of (a := "take") (b := "give") (show kd - 6 = 0 ∨ kd - 6 = 1 by omega)
      refine ⟨(by show 2 ≤ sizeLine; decide), fun a na => ⟨_, rfl, _, _, rfl, rfl, a, _, _, _, rfl, rfl, SqL.of upd_same, esg, _, rfl, _, _, rfl, rfl, (by show (0 : Int) < 3; decide), (by show 2 ≤ sizeLine; decide), fun r nr =>
        k (.ref r) (sg, [.i (x % 3)]) _ ((same_new na).trans (same_new nr)) ⟨r, _, rfl, upd_same, .cons rfl .nil⟩ ?_⟩⟩
      have a1 := okI (m := m) (x := x % 3) (l_lock m n) (by omega) (by omega)
      have p : okParts m n ["lock"] [.i (x % 3)] = true := by
        show (okPart m n "lock" _ && true) = true
        rw [a1]; rfl
      rcases osg with e | e
      · rw [e]; exact okL k_take p
      · rw [e]; exact okL k_give p
    · obtain ⟨sg, osg, esg⟩ := one_of (a := "fork") (b := "wait") (show kd - 8 = 0 ∨ kd - 8 = 1 by omega)
      refine ⟨(by show 2 ≤ sizeLine; decide), fun a na => ⟨_, rfl, _, _, rfl, rfl, a, _, _, _, rfl, rfl, SqL.of upd_same, esg, _, rfl, _, rfl, _, _, rfl, rfl, (by show (0 : Int) < m; omega), (by show 2 ≤ sizeLine; decide), fun r nr =>
        k (.ref r) (sg, [.i (x % m)]) _ ((same_new na).trans (same_new nr)) ⟨r, _, rfl, upd_same, .cons rfl .nil⟩ ?_⟩⟩
      have a1 := okI (n := n) (x := x % m) (l_thr m n) (Int.emod_nonneg _ (by omega)) (Int.emod_lt_of_pos _ (by omega))
      have p : okParts m n ["thread"] [.i (x % m)] = true := by
        show (okPart m n "thread" _ && true) = true
        rw [a1]; rfl
      rcases osg with e | e
      · rw [e]; exact okL k_fork p
      · rw [e]; exact okL k_wait p
end
end K
namespace K
open PySem L2 RC
theorem ndO1 : (["_law_other"] : List Str).Nodup := by decide +kernel
theorem ndK2 : (["_law_k", "_law_script"] : List Str).Nodup := by decide +kernel
section
variable {P : Program} {w : World} {K : PySem.W.Frag} {mg : Str → Option Value} {base : Heap}
theorem scCodes : FnScope ["_law_script", "_law_many", "_law_size", "_law_codes_here", "_law_at", "_law_thread", "_law_lines", "_law_k"] ["_law_script", "_law_many", "_law_size"] (defScope s__law_codes) := ⟨rfl, rfl, rfl, by decide +kernel, rfl, by decide +kernel, by decide +kernel⟩
theorem ok_codes {f fC fL : Addr} {fd fdC fdL : FuncData} (F : Fun K "_law_codes" "_law_codes" s__law_codes f fd) (B : TxB mg)
    (GC : FnOk P w K mg base CX0 1 fC fdC ["_law_script", "_law_k"] (spCell K)) (cC : Cal K mg "_law_cell_at" fC fdC ["_law_script", "_law_k"])
    (GL : FnOk P w K mg base CX0 2 fL fdL ["_law_cell", "_law_many", "_law_size"] spLL) (cL : Cal K mg "_law_line" fL fdL ["_law_cell", "_law_many", "_law_size"]) : FnOk P w K mg base CX0 3 f fd ["_law_script", "_law_many", "_law_size"] (spCodes K) := by
  refine F.ok scCodes (fun vs H Q E h => ?_) (fun cdv A outer s H vs Q E hr h => ?_)
  · obtain ⟨a, m, n, ns, rfl, _⟩ := h
    rfl
  · obtain ⟨a, m, n, ns, rfl, hS, m1, m3, n1, n4, k⟩ := h
    have nd := scCodes.nd
    have hr1 : Room 1 _ := hr.mono (by decide)
    have hr2 : Room 2 _ := hr.mono (by decide)
    refine ⟨_, pss_cons (ps_set (i := 3) nd rfl (Or.inl rfl) (pe_lst pa_nil)) (pss_cons (ps_set (i := 4) nd rfl (Or.inl rfl) pe_int)
      (pss_cons (ps_for PassesOwn.never rfl (pi_range1 rfl B.rng (pa_cons (pv 1) pa_nil)) (pg_name (i := 5) nd rfl (Or.inl rfl))
        (pss_cons (ps_set (i := 6) nd rfl (Or.inl rfl) (pe_lst pa_nil))
        (pss_cons (ps_if (PW.pt (pw_and (pt_cmpR op_eq (pv 5) pe_int (nomark _)) (pw_and1 (pt_cmpR op_gt (pe_op op_mod (pe_call GC hr1 rfl cC.mgf cC.kp cC.b .nil pass0 (pa_cons (pv 0) (pa_cons pe_int pa_nil))) pe_int) pe_int (nomark _)))))
          (pss_one (ps_setComp (N := ["_law_other"]) (nt := 1) (fr := []) (i := 6) nd rfl (Or.inl rfl) rfl (.of (XN := ["_law_script", "_law_many", "_law_size", "_law_codes_here", "_law_at", "_law_thread", "_law_lines", "_law_k"]) (osc := defScope s__law_codes) rfl rfl rfl (by decide +kernel) (by decide +kernel) (by decide +kernel) rfl (by decide +kernel))
            (pi_range2 rfl B.rng (pa_cons pe_int (pa_cons (pv 1) pa_nil))) (fun _ _ _ _ _ _ => ⟨pg_name (i := 0) ndO1 rfl (Or.inl rfl) (Or.inr rfl), pif_nil, pe_tup (pa_cons pe_str (pa_cons (pv 0) pa_nil))⟩))) pss_nil)
        (pss_cons (ps_for PassesOwn.never rfl (pi_range1 rfl B.rng (pa_cons (pe_op op_mod (pe_call GC hr1 rfl cC.mgf cC.kp cC.b .nil pass0 (pa_cons (pv 0) (pa_cons (pe_op op_add pe_int (pv 5)) pa_nil))) pe_int) pa_nil)) (pg_name (i := 7) nd rfl (Or.inl rfl))
          (pss_cons (ps_expr (pe_bm PySem.F.plainAttrs_list PySem.F.slot_list_append PySem.F.type_list_append mt_append (pv 6) (pa_cons (pe_call GL hr2 rfl cL.mgf cL.kp cL.b .nil pass0 (pa_cons (pe_call GC hr1 rfl cC.mgf cC.kp cC.b .nil pass0 (pa_cons (pv 0) (pa_cons (pv 4) pa_nil))) (pa_cons (pv 1) (pa_cons (pv 2) pa_nil)))) pa_nil)))
          (pss_one (ps_aug (i := 4) nd rfl (Or.inl rfl) pe_int ip_add))))
        (pss_one (ps_expr (pe_bm PySem.F.plainAttrs_list PySem.F.slot_list_append PySem.F.type_list_append mt_append (pv 3) (pa_cons (pe_slice sl_list (pv 6) po_none (po_some pe_int)) pa_nil))))))))
      (pss_one (ps_ret (pv 3))))), ?_⟩
    refine ⟨Nat.zero_le _, fun r nr => ?_⟩
    dsimp only [gName]
    refine ⟨_, rfl, m, rfl, by omega, by omega, for_range (lo := 0) (n := m.toNat) (fun i σ H2 => ∃ (xs : List V) (cs : List (List Line)) (at' : Int) (v5 v6 v7 : Option V), σ = [some (.ref a), some (.int m), some (.int n), some (.ref r), some (.int at'), v5, v6, v7] ∧ 0 ≤ at' ∧ CO m n H H2 r xs cs ∧ cs.length = i)
      ⟨[], [], 8, none, none, none, rfl, by decide, ⟨same_new nr, nr, upd_same, .nil, fun c hc => (by cases hc), fun l hl => (by cases hl), fun l hl => (by cases hl)⟩, rfl⟩ ?_ ?_⟩
    · rintro i σ H2 hi ⟨xs, cs, at', v5, v6, v7, rfl, hat, O, lc⟩
      have e0 : (0 : Int) + (i : Int) = (i : Int) := by omega
      rw [e0]
      dsimp only [gName]
      have him : (i : Int) < m := by omega
      have lxs : xs.length = i := by rw [RC.Paired.len O.P, lc]
      refine ⟨Nat.zero_le _, fun l0 nl0 => ?_⟩
      dsimp only [gName]
      have s3 : Same H2 (upd H2 l0 (.lst [])) := same_new nl0
      have C0 : CD m n H (upd H2 l0 (.lst [])) r xs cs l0 [] [] := O.turn s3 nl0 upd_same .nil (fun l hl => (by cases hl))
      generalize upd H2 l0 (.lst []) = H3 at s3 C0
      refine PuT.ifsJ (c := i = 0 ∧ 0 < ns.getD (1 : Int).toNat 0 % 4) (fun σ' H' => ∃ (ln : Addr) (us : List V) (ls : List Line), σ' = [some (.ref a), some (.int m), some (.int n), some (.ref r), some (.int at'), some (.int (i : Int)), some (.ref ln), v7] ∧ CD m n H H' r xs cs ln us ls ∧ us.length ≤ 3)
        ((PuT.and (a := decide ((i : Int) = 0)) (b := decide (0 < ns.getD (1 : Int).toNat 0 % 4)) (fun Qt q => ⟨_, rfl, rfl, _, rfl, by rw [dec_int']; exact q⟩)
          (fun _ Qt q => ⟨_, rfl, a, 1, ns, rfl, C0.s.seq hS, by decide, _, _, rfl, rfl, (by show (0 : Int) < 4; decide), _, _, rfl, rfl, _, rfl, q⟩)).iff (by simp)) (fun z N hN => ?_) (fun z => ⟨l0, [], [], rfl, C0, by simp⟩) ?_
      · refine asgComp_range2 (lo := 1) (hi := m) (fun D j ys H' => Same H3 H' ∧ Paired (LineAt H') ys ((List.range j).map fun (t : Nat) => (("fork" : Str), [Part.i (1 + (t : Int))]))) (fun Q' q => ⟨_, rfl, q⟩) ⟨by decide, by decide, by omega, by omega⟩ (by omega) (fun D nD => ⟨same_new nD, .nil⟩) (fun D nD j ys H' N hj ⟨s', P'⟩ hd hys kT kF => ?_) (fun D nD ys H' ⟨s', P'⟩ hd => ?_)
        · dsimp only [tYes]
          rw [if_pos rfl]
          refine ⟨_, rfl, (by show 2 ≤ sizeLine; decide), fun t nt => ⟨ys, same_new nt _ _ hd, hys, kT (.ref t) _ ⟨(s'.trans (same_new nt)).put2 nD, ?_⟩⟩⟩
          have et : upd H' t (.tup [.str "fork", .int (1 + (j : Int))]) t = some (.tup [.str "fork", .int (1 + (j : Int))]) := upd_same
          have P5 : Paired (LineAt (upd H' t (.tup [.str "fork", .int (1 + (j : Int))]))) ys _ := LinesAt.same (same_new nt) P'
          have ed := same_new (o := .tup [.str "fork", .int (1 + (j : Int))]) nt _ _ hd
          generalize upd H' t (.tup [.str "fork", .int (1 + (j : Int))]) = H5 at et P5 ed
          rw [List.range_succ, List.map_append]
          have ts : TSame H5 (upd H5 D (.lst (ys ++ [.ref t]))) := tsame_lst ed
          exact RC.Paired.app (LinesAt.ts ts P5) (.cons (LineAt.ts ts ⟨t, _, rfl, et, .cons rfl .nil⟩) .nil)
        · refine hN _ _ ⟨D, ys, _, rfl, O.turn (s3.trans s') (s3.free nD) hd P' (fun l hl => ?_), ?_⟩
          · obtain ⟨t, ht, rfl⟩ := List.mem_map.mp hl
            have ht : t < (m - 1).toNat := by simpa using ht
            refine okL k_fork ?_
            show (okPart m n "thread" _ && true) = true
            rw [okI (l_thr m n) (by omega) (by omega)]; rfl
          · have := RC.Paired.len P'
            rw [List.length_map, List.length_range] at this
            omega
      rintro σ' H4 ⟨ln, us, ls, rfl, C4, lu⟩
      generalize hcnt : ns.getD ((2 : Int) + (i : Int)).toNat 0 % 9 = cnt
      have cb : 0 ≤ cnt ∧ cnt < 9 := by rw [← hcnt]; omega
      refine ⟨_, rfl, _, rfl, _, _, rfl, rfl, a, _, ns, rfl, C4.s.seq hS, (by show (0 : Int) ≤ 2 + (i : Int); omega), _, _, rfl, rfl, (by show (0 : Int) < 9; decide), cnt, by rw [← hcnt], by omega, by omega, for_range (lo := 0) (n := cnt.toNat) (fun j σ H5 => ∃ (us : List V) (ls : List Line) (at' : Int) (v7 : Option V), σ = [some (.ref a), some (.int m), some (.int n), some (.ref r), some (.int at'), some (.int (i : Int)), some (.ref ln), v7] ∧ 0 ≤ at' ∧ CD m n H H5 r xs cs ln us ls ∧ us.length ≤ 3 + j)
        ⟨us, ls, at', v7, rfl, hat, C4, lu⟩ ?_ ?_⟩
      · rintro j σ H5 hj ⟨us, ls, at', v7, rfl, hat, C5, lu⟩
        dsimp only [gName]
        refine ⟨_, rfl, .inl ⟨rfl, _, SqL.of C5.eln⟩, _, rfl, _, rfl, a, at', ns, rfl, C5.s.seq hS, hat, _, rfl, _, rfl, _, m, n, rfl, m1, m3, n1, n4, fun u l H6 s6 hu ho => ⟨ln, us, u, rfl, rfl, s6 _ _ C5.eln, small1000 (by omega), ?_⟩⟩
        refine ⟨_, rfl, _, _, rfl, rfl, us ++ [u], ls ++ [l], at' + 1, _, rfl, by omega, (C5.same s6).app hu ho, ?_⟩
        rw [List.length_append, List.length_singleton]
        omega
      · rintro σ H5 ⟨us, ls, at', v7, rfl, hat, C5, lu⟩
        refine ⟨_, rfl, .inl ⟨rfl, _, SqL.of C5.er⟩, _, rfl, 8, rfl, ln, us, rfl, SqL.of C5.eln, fun c nc => ?_⟩
        rw [show (some (8 : Int)) = some ((8 : Nat) : Int) from rfl, cutV_take]
        refine ⟨r, xs, .ref c, rfl, rfl, same_new nc _ _ C5.er, small1000 (by omega), xs ++ [.ref c], cs ++ [ls.take 8], at', _, _, _, rfl, hat, C5.next O nc, ?_⟩
        rw [List.length_append, lc]
        rfl
    · rintro σ H2 ⟨xs, cs, at', v5, v6, v7, rfl, hat, O, lc⟩
      exact ⟨_, rfl, k r xs cs H2 O.s nr O.er O.P O.fx (by omega) O.l8 O.ok⟩
theorem scFs : FnScope ["_law_script", "_law_size"] ["_law_script", "_law_size"] (defScope s__law_firsts) := ⟨rfl, rfl, rfl, by decide +kernel, rfl, by decide +kernel, by decide +kernel⟩
theorem ok_fs {f fC fV : Addr} {fd fdC fdV : FuncData} (F : Fun K "_law_firsts" "_law_firsts" s__law_firsts f fd) (B : TxB mg)
    (GC : FnOk P w K mg base CX0 1 fC fdC ["_law_script", "_law_k"] (spCell K)) (cC : Cal K mg "_law_cell_at" fC fdC ["_law_script", "_law_k"])
    (GV : FnOk P w K mg base CX0 1 fV fdV ["_law_number"] spLV) (cV : Cal K mg "_law_value" fV fdV ["_law_number"]) : FnOk P w K mg base CX0 2 f fd ["_law_script", "_law_size"] (spFs K) := by
  refine F.ok scFs (fun vs H Q E h => ?_) (fun cdv A outer s H vs Q E hr h => ?_)
  · obtain ⟨a, n, ns, rfl, _⟩ := h
    rfl
  · obtain ⟨a, n, ns, rfl, hS, n4, k⟩ := h
    have hr1 : Room 1 _ := hr.mono (by decide)
    refine ⟨_, pss_one (ps_ret (pe_comp (N := ["_law_k", "_law_script"]) (nt := 1) (fr := [0]) (te := tOp (rIxT K) (tCall spLV [] E0 (tCons (tOp (rI0 fun i j => .int (i + j)) (tOp (rI0 fun i j => .int (i + j)) (tOp (rI CMul fun i j => .int (i * j)) (tC (.int 3)) (tCall (spCell K) [] E0 (tCons (tVar 1) (tCons (tOp (rI0 fun i j => .int (i + j)) (tC (.int 4)) (tVar 0)) tNil)))) (tC (.int 1))) (tOp (rI (fun _ j => 0 < j) fun i j => .int (i % j)) (tVar 0) (tC (.int 2)))) tNil)) (tC (.int 1))) rfl
      (.of (XN := ["_law_script", "_law_size"]) (osc := defScope s__law_firsts) rfl rfl rfl (by decide +kernel) (by decide +kernel) (by decide +kernel) rfl (by decide +kernel)) (pi_range1 rfl B.rng (pa_cons (pv 1) pa_nil))
      (fun _ _ _ _ _ _ => ⟨pg_name (i := 0) ndK2 rfl (Or.inl rfl) (Or.inr rfl), pif_nil, pe_ix ix_tup (pe_call GV hr1 rfl cV.mgf cV.kp cV.b .nil pass0 (pa_cons (pe_op op_add (pe_op op_add (pe_op op_mul pe_int (pe_call GC hr1 rfl cC.mgf cC.kp cC.b .nil pass0 (pa_cons (pv 1) (pa_cons (pe_op op_add pe_int (pv 0)) pa_nil)))) pe_int) (pe_op op_mod (pv 0) pe_int)) pa_nil)) pe_int (fun _ _ => rfl)⟩))), ?_⟩
    dsimp only [tRet]
    refine tComp_range (n := n) (fun D i ys H' => Same H H' ∧ ∃ fs : List Int, ys = fs.map V.int ∧ fs.length = i) (fun Q' q => ⟨_, rfl, q⟩) (by omega) (fun D hD => ⟨same_new hD, [], rfl, rfl⟩) (fun D hD i ys H' N hi ⟨s', fs, ey, lf⟩ hd hys kT kF => ?_) (fun D hD ys H' ⟨s', fs, ey, lf⟩ hd => ?_)
    · dsimp only [tYes]
      rw [if_pos rfl]
      refine ⟨_, rfl, _, rfl, _, _, rfl, rfl, a, _, ns, rfl, s'.seq hS, (by show (0 : Int) ≤ 4 + (i : Int); omega), _, _, rfl, rfl, .inl ⟨by decide, by decide⟩, _, _, rfl, rfl, _, rfl, _, _, rfl, rfl, (by show (0 : Int) < 2; decide), _, _, rfl, rfl, _, rfl, fun rv kv mv ov nrv => ⟨rv, _, _, .int mv, rfl, rfl, SqT.of upd_same, rfl, ys, same_new nrv _ _ hd, hys, kT (.int mv) _ ⟨(s'.trans (same_new nrv)).put2 hD, fs ++ [mv], by rw [ey, List.map_append]; rfl, by rw [List.length_append, lf]; rfl⟩⟩⟩
    · rw [ey] at hd
      exact k D fs H' s' hD hd lf
end
end K
namespace L2
open PySem PySem.Spec PyProof.Rows
def rCatG (K : PySem.W.Frag) : R2 := fun x y H Q => ∃ a b xs ys, x = .ref a ∧ y = .ref b ∧ SqT K H a xs ∧ SqT K H b ys ∧ xs.length + ys.length ≤ sizeLine ∧ ∀ p H', Same H H' → SqT K H' p (xs ++ ys) → Q (.ref p) H'
theorem op_catG {X : Cx} : OpR X (binaryOp .Add) (rCatG X.K) := by
  intro pins s σ H x y v u Q I rx ry h
  obtain ⟨a, b, xs, ys, rfl, rfl, ha, hb, hz, q⟩ := h
  by_cases hx : xs = []
  · subst hx
    cases rx
    cases ry
    obtain ⟨its, r1, p1, _⟩ := I.tuple ha
    obtain ⟨its2, r2, p2, _⟩ := I.tuple hb
    cases r1
    obtain ⟨⟨c1, d1, e1, s1⟩, f1, g1, n1, k1⟩ := id p1; obtain ⟨⟨c2, d2, e2, s2⟩, f2, g2, n2, k2⟩ := id p2
    simp only at g1 k1 g2 k2
    subst g1 k1 g2 k2
    exact concat_meets ⟨_, f1, rfl⟩ ⟨_, f2, rfl⟩ noFill_tuple_add seq_tuple_add PySem.F.slot_tuple_add PySem.F.entry_tuple_add (PySem.F.args_tuple_add_2 _ _) (tuple_addW0 a b #[] its2.toArray n1 n2 d1 d2 s1 s2 rfl) ⟨f1, f2, .ref b, H, I, rfl, q b H (Same.refl _) hb⟩
  · refine op_catT pins s σ H _ _ v u Q I rx ry ⟨a, b, xs, ys, rfl, rfl, ha, hb, hx, hz, fun e => q a H (Same.refl _) ?_, fun _ p hp => q p _ (same_new hp) (SqT.of upd_same)⟩
    rw [e, List.append_nil]
    exact ha
theorem repeat_tuple : seqRepeat? (.type "tuple") = pure (some (.builtin "tuple.__mul__")) := by
  unfold seqRepeat?
  rw [PySem.seqSlot_of (T := "tuple") (name := "__mul__") (id := "tuple.__mul__") PySem.F.slot_tuple_mul.lookup (by decide +kernel), PySem.seqSlot_of (T := "tuple") (name := "__rmul__") (id := "tuple.__rmul__") PySem.F.slot_tuple_rmul.lookup (by decide +kernel)]; rfl
theorem noFill_tupleM : fillsNumberSlot (.type "tuple") "mul" = pure false := PySem.fillsNumberSlot_seq (id := "tuple.__mul__") (r := some (.builtin "tuple.__rmul__")) PySem.F.slot_tuple_mul.lookup (by decide +kernel) PySem.F.slot_tuple_rmul.lookup (by decide +kernel)
theorem rmul_tup (k : Int) (t : Tok) (l : Addr) (its : Array Value) (n : Nat) (dd : Option Addr) (sl : Array (Option Value)) : Meets (Builtin.«int.__rmul__» ⟨[.int k t, .ref l], []⟩) (fun _ R s => s.heap.get? l = some { cls := .type "tuple", dict := dd, data := .seq its n, slots := sl } ∧ R (.ok (.ret Value.notImplemented)) s) :=
  .of_wp fun prog w A R s h => by
    obtain ⟨hp, g, d, tk, os⟩ := s; obtain ⟨hl, h⟩ := h
    wp_walk
    exact ⟨_, rfl, h⟩
theorem tup_mul1 (l : Addr) (its : Array Value) (n : Nat) (dd : Option Addr) (sl : Array (Option Value)) (t : Tok) : Meets (Builtin.«tuple.__mul__» ⟨[.ref l, .int 1 t], []⟩) (fun _ R s => s.heap.get? l = some { cls := .type "tuple", dict := dd, data := .seq its n, slots := sl } ∧ R (.ok (.ret (Value.ref l))) { s with heap := s.heap, toks := s.toks }) :=
  .of_wp fun prog w A R s h => by
    obtain ⟨hp, g, d, tk, os⟩ := s; obtain ⟨hl, h⟩ := h; have f1 := AutoSeq1.idx_int; have f2 := AutoSeq1.sub_tuple_tuple
    wp_walk using wpAny_loadPart' hl
    exact ⟨_, rfl, h⟩
theorem tup_mul2 (l : Addr) (x : Value) (n : Nat) (dd : Option Addr) (sl : Array (Option Value)) (t : Tok) : Meets (Builtin.«tuple.__mul__» ⟨[.ref l, .int 2 t], []⟩) (fun _ R s => s.heap.get? l = some { cls := .type "tuple", dict := dd, data := .seq #[x] n, slots := sl } ∧
    R (.ok (.ret (Value.ref s.heap.objs.size))) { s with heap := s.heap.push { cls := Value.type "tuple", data := Data.seq #[x, x] }, toks := s.toks }) :=
  .of_wp fun prog w A R s h => by
    obtain ⟨hp, g, d, tk, os⟩ := s; obtain ⟨hl, h⟩ := h; have f1 := AutoSeq1.idx_int; have f2 := AutoSeq1.sub_tuple_tuple
    wp_walk using wpAny_loadPart' hl
    exact ⟨_, rfl, h⟩
theorem tup_mul3 (l : Addr) (x : Value) (n : Nat) (dd : Option Addr) (sl : Array (Option Value)) (t : Tok) : Meets (Builtin.«tuple.__mul__» ⟨[.ref l, .int 3 t], []⟩) (fun _ R s => s.heap.get? l = some { cls := .type "tuple", dict := dd, data := .seq #[x] n, slots := sl } ∧
    R (.ok (.ret (Value.ref s.heap.objs.size))) { s with heap := s.heap.push { cls := Value.type "tuple", data := Data.seq #[x, x, x] }, toks := s.toks }) :=
  .of_wp fun prog w A R s h => by
    obtain ⟨hp, g, d, tk, os⟩ := s; obtain ⟨hl, h⟩ := h; have f1 := AutoSeq1.idx_int; have f2 := AutoSeq1.sub_tuple_tuple
    wp_walk using wpAny_loadPart' hl
    exact ⟨_, rfl, h⟩
def rRepT (K : PySem.W.Frag) : R2 := fun x y H Q => ∃ a u, ∃ k : Nat, x = .ref a ∧ y = .int (k : Int) ∧ SqT K H a [u] ∧ 1 ≤ k ∧ k ≤ 3 ∧ ∀ p H', Same H H' → SqT K H' p (List.replicate k u) → Q (.ref p) H'
theorem op_repT {X : Cx} : OpR X (binaryOp .Mult) (rRepT X.K) := by
  intro pins s σ H x y v u Q I rx ry h
  obtain ⟨a, z, k, rfl, rfl, ha, k1, k3, q⟩ := h
  cases rx
  obtain ⟨t, rfl⟩ := ry
  obtain ⟨its, r1, p1, _⟩ := I.tuple ha
  cases r1 with
  | @cons _ b _ _ rb rn =>
    cases rn
    obtain ⟨⟨c1, d1, e1, s1⟩, f1, g1, n1, m1⟩ := id p1
    simp only at g1 m1
    subst g1 m1
    have go : ∀ {Q' : Value → Shared → Prop}, wpAny (model X.prog X.w) X.A (call (.builtin "tuple.__mul__") [.ref a, .int (k : Int) t]) Q' X.xe s → wpAny (model X.prog X.w) X.A (binaryOp .Mult (.ref a) (.int (k : Int) t)) Q' X.xe s := fun {Q'} hh =>
      wpAny_binaryOp_repeat_ref (T := "tuple") (U := "int") (by decide) ⟨_, f1, rfl⟩ (fun s' => typeIs_int s' _ t) noFill_tupleM PySem.F.fills_int_mul PySem.F.slot_int_rmul repeat_tuple PySem.F.slot_int_index.lookup
        (call_meets PySem.F.slot_int_rmul (typeIs_int s _ t) PySem.F.entry_int_rmul (PySem.F.args_int_rmul_2 _ _) (rmul_tup _ t a _ n1 d1 s1) ⟨f1, rfl, ⟨_, f1, rfl⟩, hh⟩)
    refine go ?_
    have hk : k = 1 ∨ k = 2 ∨ k = 3 := by omega
    rcases hk with rfl | rfl | rfl
    · exact call_meets PySem.F.slot_tuple_mul ⟨_, f1, rfl⟩ PySem.F.entry_tuple_mul (PySem.F.args_tuple_mul_2 _ _) (tup_mul1 a _ n1 d1 s1 t) ⟨f1, .ref a, H, I, rfl, q a H (Same.refl _) ha⟩
    · refine call_meets PySem.F.slot_tuple_mul ⟨_, f1, rfl⟩ PySem.F.entry_tuple_mul (PySem.F.args_tuple_mul_2 _ _) (tup_mul2 a b n1 d1 s1 t) ⟨f1, ?_⟩
      exact ⟨.ref s.heap.objs.size, _, I.laid (t' := s.toks) (o := .tup [z, z]) (fun b ob q => Heap.get?_push_of_some _ q) (Nat.le_refl _) ⟨(by show 2 ≤ sizeLine; decide), _, .cons rb (.cons rb .nil), IsTup.new _ _⟩, rfl, q _ _ (same_new (I.hok.fresh (Nat.le_refl _))) (SqT.of upd_same)⟩
    · refine call_meets PySem.F.slot_tuple_mul ⟨_, f1, rfl⟩ PySem.F.entry_tuple_mul (PySem.F.args_tuple_mul_2 _ _) (tup_mul3 a b n1 d1 s1 t) ⟨f1, ?_⟩
      exact ⟨.ref s.heap.objs.size, _, I.laid (t' := s.toks) (o := .tup [z, z, z]) (fun b ob q => Heap.get?_push_of_some _ q) (Nat.le_refl _) ⟨(by show 3 ≤ sizeLine; decide), _, .cons rb (.cons rb (.cons rb .nil)), IsTup.new _ _⟩, rfl, q _ _ (same_new (I.hok.fresh (Nat.le_refl _))) (SqT.of upd_same)⟩
end L2
namespace RC
open PySem L2
inductive Va where
  | own (k : Nat) | num (n : Int)
inductive Cmd where
  | read (o n : Nat) | write (n : Nat) (v : Va) | set (o : Nat) (a : Va) (sg : Str) (b : Va) | skip (a : Va) (ts : Str) (b : Va) (c : Nat)
  | take (x : Nat) | give (x : Nat) | fork (x : Nat) | wait (x : Nat)
def Va.part : Va → Part
  | .own k => .v "own" [(k : Int)]
  | .num n => .v "number" [n]
def Va.ok : Va → Prop
  | .own k => k < 3
  | .num _ => True
def Cmd.line : Cmd → Line
  | .read o n => ("read", [.i (o : Int), .i (n : Int)])
  | .write n v => ("write", [.i (n : Int), v.part])
  | .set o a sg b => ("set", [.i (o : Int), a.part, .s sg, b.part])
  | .skip a ts b c => ("skip", [a.part, .s ts, b.part, .i (c : Int)])
  | .take x => ("take", [.i (x : Int)])
  | .give x => ("give", [.i (x : Int)])
  | .fork x => ("fork", [.i (x : Int)])
  | .wait x => ("wait", [.i (x : Int)])
def Cmd.ok (m n : Nat) : Cmd → Prop
  | .read o k => o < 3 ∧ k < n
  | .write k v => k < n ∧ v.ok
  | .set o a sg b => o < 3 ∧ a.ok ∧ (sg = "+" ∨ sg = "-") ∧ b.ok
  | .skip a ts b c => a.ok ∧ (ts = "==" ∨ ts = "<") ∧ b.ok ∧ c < 9
  | .take x => x < 3
  | .give x => x < 3
  | .fork x => x < m
  | .wait x => x < m
theorem int_of {m n b : Int} {k : Str} {p : Part} (hl : limOf m n k = some b) (hv : ¬ k = "value") (hs : ¬ k = "sign") (ht : ¬ k = "test") (h : okPart m n k p = true) : ∃ x : Nat, p = .i (x : Int) ∧ (x : Int) < b := by
  match p, h with
  | .v q ns, h => exact (hv (okPart_ty h)).elim
  | .s x, h =>
    rcases (okPart_ty h : k = "sign" ∨ k = "test") with e | e
    · exact absurd e hs
    · exact absurd e ht
  | .i x, h =>
    have h : (match limOf m n k with | some b => decide (0 ≤ x ∧ x < b) | none => false) = true := h
    rw [hl] at h
    have h := of_decide_eq_true h
    exact ⟨x.toNat, by rw [Int.toNat_of_nonneg h.1], by omega⟩
theorem val_of {m n : Int} {p : Part} (h : okPart m n "value" p = true) : ∃ v : Va, p = v.part ∧ v.ok := by
  match p, h with
  | .s x, h =>
    have n1 : ¬ (("value" : Str) = "sign") := by decide +kernel
    have n2 : ¬ (("value" : Str) = "test") := by decide +kernel
    rcases (okPart_ty h : (("value" : Str) = "sign") ∨ (("value" : Str) = "test")) with e | e
    · exact absurd e n1
    · exact absurd e n2
  | .i x, h =>
    obtain ⟨b, e⟩ := (okPart_ty h : ∃ b, limOf 0 0 "value" = some b)
    have : limOf 0 0 "value" = none := by decide +kernel
    rw [this] at e
    cases e
  | .v k ns, h =>
    have h : (okVal k ns && decide (("value" : Str) = "value")) = true := h
    rw [Bool.and_eq_true] at h
    match ns, h.1 with
    | [x], h =>
      have h : (decide (k = "number") || (decide (k = "own") && decide (0 ≤ x ∧ x < 3))) = true := h
      rw [Bool.or_eq_true, Bool.and_eq_true] at h
      rcases h with e | ⟨e, e2⟩
      · rw [of_decide_eq_true e]; exact ⟨.num x, rfl, trivial⟩
      · have e2 := of_decide_eq_true e2
        refine ⟨.own x.toNat, ?_, ?_⟩
        · rw [of_decide_eq_true e]
          show Part.v "own" [x] = Part.v "own" [((x.toNat : Nat) : Int)]
          rw [Int.toNat_of_nonneg e2.1]
        · show x.toNat < 3
          omega
theorem str_of {m n : Int} {k : Str} {p : Part} (hk : ¬ k = "value") (hn : limOf 0 0 k = none) (h : okPart m n k p = true) : ∃ x : Str, p = .s x ∧ (if k = "sign" then decide (x = "+") || decide (x = "-") else if k = "test" then decide (x = "==") || decide (x = "<") else false) = true := by
  match p, h with
  | .v q ns, h => exact (hk (okPart_ty h)).elim
  | .i x, h =>
    obtain ⟨b, e⟩ := (okPart_ty h : ∃ b, limOf 0 0 k = some b)
    rw [hn] at e
    cases e
  | .s x, h => exact ⟨x, rfl, h⟩
theorem sign_of {m n : Int} {p : Part} (h : okPart m n "sign" p = true) : ∃ x : Str, p = .s x ∧ (x = "+" ∨ x = "-") := by
  obtain ⟨x, e, q⟩ := str_of (by decide +kernel) (by decide +kernel) h
  rw [if_pos rfl, Bool.or_eq_true] at q
  exact ⟨x, e, q.imp of_decide_eq_true of_decide_eq_true⟩
theorem test_of {m n : Int} {p : Part} (h : okPart m n "test" p = true) : ∃ x : Str, p = .s x ∧ (x = "==" ∨ x = "<") := by
  obtain ⟨x, e, q⟩ := str_of (by decide +kernel) (by decide +kernel) h
  rw [if_neg (by decide +kernel), if_pos rfl, Bool.or_eq_true] at q
  exact ⟨x, e, q.imp of_decide_eq_true of_decide_eq_true⟩
theorem parts1 {m n : Int} {a : Str} {ps : List Part} (h : okParts m n [a] ps = true) : ∃ p, ps = [p] ∧ okPart m n a p = true := by
  match ps, h with
  | [p], h =>
    have h : (okPart m n a p && true) = true := h
    rw [Bool.and_true] at h
    exact ⟨p, rfl, h⟩
  | [], h => cases h
  | p :: q :: r, h =>
    have h : (okPart m n a p && false) = true := h
    rw [Bool.and_false] at h
    cases h
theorem parts_cons {m n : Int} {a : Str} {ks : List Str} {ps : List Part} (h : okParts m n (a :: ks) ps = true) : ∃ p r, ps = p :: r ∧ okPart m n a p = true ∧ okParts m n ks r = true := by
  match ps, h with
  | p :: r, h =>
    have h : (okPart m n a p && okParts m n ks r) = true := h
    rw [Bool.and_eq_true] at h
    exact ⟨p, r, rfl, h.1, h.2⟩
  | [], h => cases h
theorem lim_own (m n : Int) : limOf m n "own" = some 3 := if_pos rfl
theorem lim_name (m n : Int) : limOf m n "name" = some n := by unfold limOf; rw [if_neg (by decide +kernel), if_pos rfl]
theorem lim_lock (m n : Int) : limOf m n "lock" = some 3 := by unfold limOf; rw [if_neg (by decide +kernel), if_neg (by decide +kernel), if_pos rfl]
theorem lim_thr (m n : Int) : limOf m n "thread" = some m := by unfold limOf; rw [if_neg (by decide +kernel), if_neg (by decide +kernel), if_neg (by decide +kernel), if_pos rfl]
theorem lim_cnt (m n : Int) : limOf m n "count" = some 9 := by unfold limOf; rw [if_neg (by decide +kernel), if_neg (by decide +kernel), if_neg (by decide +kernel), if_neg (by decide +kernel), if_pos rfl]
theorem i_own {m n : Int} {p : Part} (h : okPart m n "own" p = true) : ∃ x : Nat, p = .i (x : Int) ∧ x < 3 := (int_of (lim_own m n) (by decide +kernel) (by decide +kernel) (by decide +kernel) h).imp fun x q => ⟨q.1, by omega⟩
theorem i_name {m : Int} {n : Nat} {p : Part} (h : okPart m (n : Int) "name" p = true) : ∃ x : Nat, p = .i (x : Int) ∧ x < n := (int_of (lim_name m n) (by decide +kernel) (by decide +kernel) (by decide +kernel) h).imp fun x q => ⟨q.1, by omega⟩
theorem i_lock {m n : Int} {p : Part} (h : okPart m n "lock" p = true) : ∃ x : Nat, p = .i (x : Int) ∧ x < 3 := (int_of (lim_lock m n) (by decide +kernel) (by decide +kernel) (by decide +kernel) h).imp fun x q => ⟨q.1, by omega⟩
theorem i_thr {m : Nat} {n : Int} {p : Part} (h : okPart (m : Int) n "thread" p = true) : ∃ x : Nat, p = .i (x : Int) ∧ x < m := (int_of (lim_thr m n) (by decide +kernel) (by decide +kernel) (by decide +kernel) h).imp fun x q => ⟨q.1, by omega⟩
theorem i_cnt {m n : Int} {p : Part} (h : okPart m n "count" p = true) : ∃ x : Nat, p = .i (x : Int) ∧ x < 9 := (int_of (lim_cnt m n) (by decide +kernel) (by decide +kernel) (by decide +kernel) h).imp fun x q => ⟨q.1, by omega⟩
theorem cmd_of {m n : Nat} {l : Line} (h : okLine (m : Int) (n : Int) l = true) : ∃ c : Cmd, c.line = l ∧ c.ok m n := by
  obtain ⟨w, ps⟩ := l
  unfold okLine at h
  have h : (match kindsOf w with | none => false | some ks => okParts (m : Int) (n : Int) ks ps) = true := h
  unfold kindsOf at h
  by_cases e0 : "read" = w
  · rw [if_pos e0] at h
    obtain ⟨p, r, rfl, h1, h⟩ := parts_cons h
    obtain ⟨q, rfl, h2⟩ := parts1 h
    obtain ⟨x, rfl, hx⟩ := i_own h1
    obtain ⟨y, rfl, hy⟩ := i_name h2
    exact ⟨.read x y, by rw [← e0]; rfl, hx, hy⟩
  rw [if_neg e0] at h
  by_cases e1 : "write" = w
  · rw [if_pos e1] at h
    obtain ⟨p, r, rfl, h1, h⟩ := parts_cons h
    obtain ⟨q, rfl, h2⟩ := parts1 h
    obtain ⟨x, rfl, hx⟩ := i_name h1
    obtain ⟨y, rfl, hy⟩ := val_of h2
    exact ⟨.write x y, by rw [← e1]; rfl, hx, hy⟩
  rw [if_neg e1] at h
  by_cases e2 : "set" = w
  · rw [if_pos e2] at h
    obtain ⟨p, r, rfl, h1, h⟩ := parts_cons h
    obtain ⟨p2, r, rfl, h2, h⟩ := parts_cons h
    obtain ⟨p3, r, rfl, h3, h⟩ := parts_cons h
    obtain ⟨p4, rfl, h4⟩ := parts1 h
    obtain ⟨x, rfl, hx⟩ := i_own h1
    obtain ⟨y, rfl, hy⟩ := val_of h2
    obtain ⟨z, rfl, hz⟩ := sign_of h3
    obtain ⟨u, rfl, hu⟩ := val_of h4
    exact ⟨.set x y z u, by rw [← e2]; rfl, hx, hy, hz, hu⟩
  rw [if_neg e2] at h
  by_cases e3 : "skip" = w
  · rw [if_pos e3] at h
    obtain ⟨p, r, rfl, h1, h⟩ := parts_cons h
    obtain ⟨p2, r, rfl, h2, h⟩ := parts_cons h
    obtain ⟨p3, r, rfl, h3, h⟩ := parts_cons h
    obtain ⟨p4, rfl, h4⟩ := parts1 h
    obtain ⟨x, rfl, hx⟩ := val_of h1
    obtain ⟨y, rfl, hy⟩ := test_of h2
    obtain ⟨z, rfl, hz⟩ := val_of h3
    obtain ⟨u, rfl, hu⟩ := i_cnt h4
    exact ⟨.skip x y z u, by rw [← e3]; rfl, hx, hy, hz, hu⟩
  rw [if_neg e3] at h
  by_cases e4 : "take" = w
  · rw [if_pos e4] at h
    obtain ⟨p, rfl, h1⟩ := parts1 h
    obtain ⟨x, rfl, hx⟩ := i_lock h1
    exact ⟨.take x, by rw [← e4]; rfl, hx⟩
  rw [if_neg e4] at h
  by_cases e5 : "give" = w
  · rw [if_pos e5] at h
    obtain ⟨p, rfl, h1⟩ := parts1 h
    obtain ⟨x, rfl, hx⟩ := i_lock h1
    exact ⟨.give x, by rw [← e5]; rfl, hx⟩
  rw [if_neg e5] at h
  by_cases e6 : "fork" = w
  · rw [if_pos e6] at h
    obtain ⟨p, rfl, h1⟩ := parts1 h
    obtain ⟨x, rfl, hx⟩ := i_thr h1
    exact ⟨.fork x, by rw [← e6]; rfl, hx⟩
  rw [if_neg e6] at h
  by_cases e7 : "wait" = w
  · rw [if_pos e7] at h
    obtain ⟨p, rfl, h1⟩ := parts1 h
    obtain ⟨x, rfl, hx⟩ := i_thr h1
    exact ⟨.wait x, by rw [← e7]; rfl, hx⟩
  rw [if_neg e7] at h
  cases h
def linesC (d : List Cmd) : List Line := d.map Cmd.line
def codesC (ds : List (List Cmd)) : List (List Line) := ds.map linesC
theorem cmds_of {m n : Nat} : ∀ {ls : List Line}, (∀ l ∈ ls, okLine (m : Int) (n : Int) l = true) → ∃ d : List Cmd, linesC d = ls ∧ ∀ c ∈ d, c.ok m n
  | [], _ => ⟨[], rfl, fun c hc => (by cases hc)⟩
  | l :: ls, h => by
    obtain ⟨c, e, o⟩ := cmd_of (h l (.head _))
    obtain ⟨d, e2, o2⟩ := cmds_of (ls := ls) fun l' hl => h l' (.tail _ hl)
    refine ⟨c :: d, by unfold linesC at e2 ⊢; rw [List.map_cons, e, e2], fun c' hc => ?_⟩
    rcases List.mem_cons.mp hc with z | z
    · rw [z]; exact o
    · exact o2 c' z
theorem cods_of {m n : Nat} : ∀ {cs : List (List Line)}, (∀ ls ∈ cs, ∀ l ∈ ls, okLine (m : Int) (n : Int) l = true) → ∃ ds : List (List Cmd), codesC ds = cs ∧ ∀ d ∈ ds, ∀ c ∈ d, c.ok m n
  | [], _ => ⟨[], rfl, fun c hc => (by cases hc)⟩
  | l :: ls, h => by
    obtain ⟨c, e, o⟩ := cmds_of (h l (.head _))
    obtain ⟨d, e2, o2⟩ := cods_of (cs := ls) fun l' hl => h l' (.tail _ hl)
    refine ⟨c :: d, by unfold codesC at e2 ⊢; rw [List.map_cons, e, e2], fun c' hc => ?_⟩
    rcases List.mem_cons.mp hc with z | z
    · rw [z]; exact o
    · exact o2 c' z
structure Ste where
  li : List Nat
  ow : List (List Int)
  va : List Int
  ho : List (Option Nat)
  aw : List Bool
structure Wf (m n : Nat) (s : Ste) : Prop where
  li : s.li.length = m
  ow : s.ow.length = m
  o3 : ∀ o ∈ s.ow, o.length = 3
  va : s.va.length = n
  ho : s.ho.length = 3
  aw : s.aw.length = m
def vN (n : Nat) : V := .int (n : Int)
def vH : Option Nat → V
  | none => .non
  | some t => .int (t : Int)
def valV' (own : List Int) : Va → Int
  | .own k => own.getD k 0
  | .num n => n
def tstB (own : List Int) (a : Va) (ts : Str) (b : Va) : Bool := if ts = "==" then decide (valV' own a = valV' own b) else decide (valV' own a < valV' own b)
def lineB (l : Nat) (own : List Int) : Cmd → Nat
  | .skip a ts b c => if tstB own a ts b = true then l + 1 + c else l + 1
  | _ => l + 1
def ownB (own va : List Int) : Cmd → List Int
  | .read o n => own.set o (va.getD n 0)
  | .set o a sg b => own.set o (if sg = "+" then valV' own a + valV' own b else valV' own a - valV' own b)
  | _ => own
def vaB (own va : List Int) : Cmd → List Int
  | .write n v => va.set n (valV' own v)
  | _ => va
def hoB (t : Nat) (ho : List (Option Nat)) : Cmd → List (Option Nat)
  | .take x => ho.set x (some t)
  | .give x => ho.set x none
  | _ => ho
def awB (aw : List Bool) : Cmd → List Bool
  | .fork x => aw.set x true
  | _ => aw
def stepS (s : Ste) (t : Nat) (c : Cmd) : Ste :=
  ⟨s.li.set t (lineB (s.li.getD t 0) (s.ow.getD t []) c), s.ow.set t (ownB (s.ow.getD t []) s.va c), vaB (s.ow.getD t []) s.va c, hoB t s.ho c, awB s.aw c⟩
def beg (m : Nat) (fs : List Int) : Ste := ⟨List.replicate m 0, List.replicate m [0, 0, 0], fs, [none, none, none], (List.range m).map fun t => decide (t = 0)⟩
theorem wf_beg (m : Nat) (fs : List Int) : Wf m fs.length (beg m fs) := by
  refine ⟨by simp [beg], by simp [beg], fun o ho => ?_, rfl, rfl, by simp [beg]⟩
  have : o = [0, 0, 0] := by
    have := List.eq_of_mem_replicate ho
    exact this
  rw [this]
  rfl
theorem mem_set_or {α : Type} {l : List α} {i : Nat} {x y : α} (h : y ∈ l.set i x) : y ∈ l ∨ y = x := List.mem_or_eq_of_mem_set h
theorem wf_step {m n t : Nat} {s : Ste} {c : Cmd} (w : Wf m n s) (ht : t < m) : Wf m n (stepS s t c) := by
  have ho : (s.ow.getD t []).length = 3 := by
    have h1 : t < s.ow.length := by rw [w.ow]; exact ht
    rw [List.getD_eq_getElem?_getD]
    have : s.ow[t]? = some s.ow[t] := by simp [h1]
    rw [this]
    exact w.o3 _ (List.getElem_mem h1)
  refine ⟨by simp [stepS, w.li], by simp [stepS, w.ow], fun o h => ?_, ?_, ?_, ?_⟩
  · rcases mem_set_or h with q | q
    · exact w.o3 o q
    · rw [q]
      cases c <;> simp only [ownB, List.length_set] <;> exact ho
  · show (vaB _ s.va c).length = n
    cases c <;> simp only [vaB, List.length_set] <;> exact w.va
  · show (hoB t s.ho c).length = 3
    cases c <;> simp only [hoB, List.length_set] <;> exact w.ho
  · show (awB s.aw c).length = m
    cases c <;> simp only [awB, List.length_set] <;> exact w.aw
def endB (ds : List (List Cmd)) (s : Ste) (t : Nat) : Bool := decide ((ds.getD t []).length ≤ s.li.getD t 0)
def letB (ds : List (List Cmd)) (s : Ste) (t : Nat) : Cmd → Bool
  | .take x => decide (s.ho.getD x none = none)
  | .give x => decide (s.ho.getD x none = some t)
  | .fork x => !s.aw.getD x false
  | .wait x => s.aw.getD x false && endB ds s x
  | _ => true
def cmdAt (ds : List (List Cmd)) (s : Ste) (t : Nat) : Option Cmd := (ds.getD t [])[s.li.getD t 0]?
def mayB (ds : List (List Cmd)) (s : Ste) (t : Nat) : Bool := s.aw.getD t false && match cmdAt ds s t with
  | none => false
  | some c => letB ds s t c
theorem cmdAt_end {ds : List (List Cmd)} {s : Ste} {t : Nat} : endB ds s t = true ↔ cmdAt ds s t = none := by
  unfold endB cmdAt
  rw [decide_eq_true_iff, List.getElem?_eq_none_iff]
theorem may_cmd {ds : List (List Cmd)} {s : Ste} {t : Nat} (h : mayB ds s t = true) : ∃ c, cmdAt ds s t = some c ∧ s.aw.getD t false = true ∧ letB ds s t c = true := by
  unfold mayB at h
  rw [Bool.and_eq_true] at h
  cases e : cmdAt ds s t with
  | none => rw [e] at h; cases h.2
  | some c => rw [e] at h; exact ⟨c, rfl, h.1, h.2⟩
def SqI (K : PySem.W.Frag) (H : Hp) (u : V) (o : List Int) : Prop := ∃ q, u = .ref q ∧ SqT K H q (o.map V.int)
def StAt (K : PySem.W.Frag) (H : Hp) (v : V) (s : Ste) : Prop := ∃ r a b c d e os, v = .ref r ∧ SqT K H r [.ref a, .ref b, .ref c, .ref d, .ref e] ∧ SqT K H a (s.li.map vN) ∧ SqT K H b os ∧ Paired (SqI K H) os s.ow ∧ SqT K H c (s.va.map V.int) ∧ SqT K H d (s.ho.map vH) ∧ SqT K H e (s.aw.map V.bl)
theorem SqT.ls {K : PySem.W.Frag} {H H' : Hp} {a : Addr} {xs : List V} (s : LSame H H') (h : SqT K H a xs) : SqT K H' a xs := by
  rcases h with (h | ⟨o, h⟩) | h
  · exact .inl (.inl (s _ _ h (by intro ys z; cases z)))
  · exact .inl (.inr ⟨o, s _ _ h (by intro ys z; cases z)⟩)
  · exact .inr h
theorem SqI.ls {K : PySem.W.Frag} {H H' : Hp} {u : V} {o : List Int} (s : LSame H H') (h : SqI K H u o) : SqI K H' u o := h.imp fun q p => ⟨p.1, SqT.ls s p.2⟩
theorem StAt.ls {K : PySem.W.Frag} {H H' : Hp} {v : V} {s : Ste} (k : LSame H H') (h : StAt K H v s) : StAt K H' v s := by
  obtain ⟨r, a, b, c, d, e, os, e0, h0, h1, h2, h3, h4, h5, h6⟩ := h
  exact ⟨r, a, b, c, d, e, os, e0, SqT.ls k h0, SqT.ls k h1, SqT.ls k h2, Paired.imp (fun _ _ q => q.ls k) h3, SqT.ls k h4, SqT.ls k h5, SqT.ls k h6⟩
theorem StAt.same {K : PySem.W.Frag} {H H' : Hp} {v : V} {s : Ste} (k : Same H H') (h : StAt K H v s) : StAt K H' v s := h.ls (LSame.of k)
def mvI (ds : List (List Cmd)) (s : Ste) : List Int := ((List.range ds.length).filter (mayB ds s)).map fun (t : Nat) => (t : Int)
theorem mv_snoc {f : Nat → Bool} {i : Nat} : (((List.range (i + 1)).filter f).map fun (t : Nat) => (t : Int)).map V.int = if f i = true then (((List.range i).filter f).map fun (t : Nat) => (t : Int)).map V.int ++ [.int (i : Int)] else (((List.range i).filter f).map fun (t : Nat) => (t : Int)).map V.int := by
  rw [List.range_succ, List.filter_append]
  cases h : f i with
  | true => rw [if_pos rfl]; simp [h]
  | false => rw [if_neg (by decide)]; simp [h]
theorem mv_mem {ds : List (List Cmd)} {s : Ste} {i : Nat} {z : Int} (h : (mvI ds s)[i]? = some z) : ∃ t : Nat, z = (t : Int) ∧ t < ds.length ∧ mayB ds s t = true := by
  have hm := List.mem_of_getElem? h
  unfold mvI at hm
  obtain ⟨t, ht, rfl⟩ := List.mem_map.mp hm
  have := List.mem_filter.mp ht
  exact ⟨t, rfl, by simpa using this.1, this.2⟩
end RC
namespace K
open PySem L2 RC
structure PG (CP : Addr) (H : Hp) (p : Addr) (fs : List Int) (ds : List (List Cmd)) : Prop where
  a : ProgAt CP H p fs (codesC ds)
  ok : ∀ d ∈ ds, ∀ c ∈ d, c.ok ds.length fs.length
  c1 : 1 ≤ ds.length
  c3 : ds.length ≤ 3
  l8 : ∀ d ∈ ds, d.length ≤ 8
  f4 : fs.length ≤ 4
theorem PG.ls {CP : Addr} {H H' : Hp} {p : Addr} {fs : List Int} {ds : List (List Cmd)} (s : LSame H H') (h : PG CP H p fs ds) : PG CP H' p fs ds := ⟨h.a.ls s, h.ok, h.c1, h.c3, h.l8, h.f4⟩
theorem PG.same {CP : Addr} {H H' : Hp} {p : Addr} {fs : List Int} {ds : List (List Cmd)} (s : Same H H') (h : PG CP H p fs ds) : PG CP H' p fs ds := h.ls (LSame.of s)
theorem codesC_len (ds : List (List Cmd)) : (codesC ds).length = ds.length := by unfold codesC; rw [List.length_map]
theorem codesC_get {ds : List (List Cmd)} {t : Nat} (h : t < ds.length) : (codesC ds)[t]? = some (linesC (ds.getD t [])) := by
  unfold codesC
  rw [List.getElem?_map, List.getD_eq_getElem?_getD]
  have : ds[t]? = some ds[t] := by simp [h]
  rw [this]
  rfl
theorem getD_mem {ds : List (List Cmd)} {t : Nat} (h : t < ds.length) : ds.getD t [] ∈ ds := by
  rw [List.getD_eq_getElem?_getD]
  have : ds[t]? = some ds[t] := by simp [h]
  rw [this]
  exact List.getElem_mem h
theorem cmdAt_ok {ds : List (List Cmd)} {n t : Nat} {s : Ste} {c : Cmd} (ok : ∀ d ∈ ds, ∀ c ∈ d, c.ok ds.length n) (h : cmdAt ds s t = some c) : c.ok ds.length n := by
  unfold cmdAt at h
  have hc := List.mem_of_getElem? h
  by_cases ht : t < ds.length
  · exact ok _ (getD_mem ht) c hc
  · rw [List.getD_eq_getElem?_getD, List.getElem?_eq_none (by omega)] at hc
    cases hc
def spBegin (K : PySem.W.Frag) (CP : Addr) : Sp := fun vs H Q _ => ∃ (p : Addr) (fs : List Int) (ds : List (List Cmd)), vs = [.ref p] ∧ PG CP H p fs ds ∧ ∀ v H', Same H H' → StAt K H' v (beg ds.length fs) → Q v H'
def spEnd (K : PySem.W.Frag) (CP : Addr) : Sp := fun vs H Q _ => ∃ (p : Addr) (fs : List Int) (ds : List (List Cmd)) (v : V) (s : Ste) (t : Nat), vs = [.ref p, v, .int (t : Int)] ∧ PG CP H p fs ds ∧ StAt K H v s ∧ Wf ds.length fs.length s ∧ t < ds.length ∧ ∀ H', Same H H' → Q (.bl (endB ds s t)) H'
def spNext (K : PySem.W.Frag) (CP : Addr) : Sp := fun vs H Q _ => ∃ (p : Addr) (fs : List Int) (ds : List (List Cmd)) (v : V) (s : Ste) (t : Nat), vs = [.ref p, v, .int (t : Int)] ∧ PG CP H p fs ds ∧ StAt K H v s ∧ Wf ds.length fs.length s ∧ t < ds.length ∧ ∀ u, LnO H u ((cmdAt ds s t).map Cmd.line) → Q u H
def spLets (K : PySem.W.Frag) (CP : Addr) : Sp := fun vs H Q _ => ∃ (p : Addr) (fs : List Int) (ds : List (List Cmd)) (v u : V) (s : Ste) (t : Nat) (c : Cmd), vs = [.ref p, v, .int (t : Int), u] ∧ PG CP H p fs ds ∧ StAt K H v s ∧ Wf ds.length fs.length s ∧ LineAt H u c.line ∧ c.ok ds.length fs.length ∧ ∀ H', Same H H' → Q (.bl (letB ds s t c)) H'
def mayI (ds : List (List Cmd)) (s : Ste) (t : Int) : Bool := if 0 ≤ t ∧ t < (ds.length : Int) then mayB ds s t.toNat else false
def spMay (K : PySem.W.Frag) (CP : Addr) : Sp := fun vs H Q _ => ∃ (p : Addr) (fs : List Int) (ds : List (List Cmd)) (v : V) (s : Ste) (t : Int), vs = [.ref p, v, .int t] ∧ PG CP H p fs ds ∧ StAt K H v s ∧ Wf ds.length fs.length s ∧ ∀ H', Same H H' → Q (.bl (mayI ds s t)) H'
theorem ndTh : (["thread"] : List Str).Nodup := by decide +kernel
theorem is_take {c : Cmd} (h : c.line.1 = "take") : ∃ x, c = .take x := by
  cases c with
  | take x => exact ⟨x, rfl⟩
  | _ => simp only [Cmd.line] at h; exact absurd h (by decide +kernel)
theorem is_give {c : Cmd} (h : c.line.1 = "give") : ∃ x, c = .give x := by
  cases c with
  | give x => exact ⟨x, rfl⟩
  | _ => simp only [Cmd.line] at h; exact absurd h (by decide +kernel)
theorem is_fork {c : Cmd} (h : c.line.1 = "fork") : ∃ x, c = .fork x := by
  cases c with
  | fork x => exact ⟨x, rfl⟩
  | _ => simp only [Cmd.line] at h; exact absurd h (by decide +kernel)
theorem is_wait {c : Cmd} (h : c.line.1 = "wait") : ∃ x, c = .wait x := by
  cases c with
  | wait x => exact ⟨x, rfl⟩
  | _ => simp only [Cmd.line] at h; exact absurd h (by decide +kernel)
theorem is_read {c : Cmd} (h : c.line.1 = "read") : ∃ o n, c = .read o n := by
  cases c with
  | read o n => exact ⟨o, n, rfl⟩
  | _ => simp only [Cmd.line] at h; exact absurd h (by decide +kernel)
theorem is_write {c : Cmd} (h : c.line.1 = "write") : ∃ n v, c = .write n v := by
  cases c with
  | write n v => exact ⟨n, v, rfl⟩
  | _ => simp only [Cmd.line] at h; exact absurd h (by decide +kernel)
theorem is_set {c : Cmd} (h : c.line.1 = "set") : ∃ o a sg b, c = .set o a sg b := by
  cases c with
  | set o a sg b => exact ⟨o, a, sg, b, rfl⟩
  | _ => simp only [Cmd.line] at h; exact absurd h (by decide +kernel)
theorem is_skip {c : Cmd} (h : c.line.1 = "skip") : ∃ a ts b k, c = .skip a ts b k := by
  cases c with
  | skip a ts b k => exact ⟨a, ts, b, k, rfl⟩
  | _ => simp only [Cmd.line] at h; exact absurd h (by decide +kernel)
theorem letB_else {ds : List (List Cmd)} {s : Ste} {t : Nat} {c : Cmd} (h1 : ¬ c.line.1 = "take") (h2 : ¬ c.line.1 = "give") (h3 : ¬ c.line.1 = "fork") (h4 : ¬ c.line.1 = "wait") : letB ds s t c = true := by
  cases c with
  | take x => exact absurd rfl h1
  | give x => exact absurd rfl h2
  | fork x => exact absurd rfl h3
  | wait x => exact absurd rfl h4
  | _ => rfl
theorem line1 {H : Hp} {u : V} {w : Str} {x : Int} (h : LineAt H u (w, [.i x])) : ∃ r, u = .ref r ∧ H r = some (.tup [.str w, .int x]) := by
  obtain ⟨r, us, e, er, p⟩ := h
  cases p with
  | cons a b =>
    cases b
    have a : _ = V.int x := a
    subst a
    exact ⟨r, e, er⟩
theorem dec_vH (o : Option Nat) (t : Nat) : decide (vH o = V.int (t : Int)) = decide (o = some t) := by
  cases o with
  | none => rfl
  | some k =>
    show decide (V.int (k : Int) = V.int (t : Int)) = _
    rw [dec_int']
    exact decide_eq_decide.mpr ⟨fun h => by rw [Int.ofNat.inj h], fun h => by cases h; rfl⟩
theorem dec_vN (o : Option Nat) : decide (vH o = V.non) = decide (o = none) := by
  cases o <;> rfl
theorem scal_vH (o : Option Nat) (t : Int) : scal (vH o) (.int t) = true := by
  cases o <;> rfl
theorem map_at {α : Type} {l : List α} {f : α → V} {i : Nat} {d : α} (h : i < l.length) : atI (l.map f) (i : Int) = some (f (l.getD i d)) := by
  refine atI_nat ?_
  rw [List.getElem?_map, List.getD_eq_getElem?_getD]
  have : l[i]? = some l[i] := by simp [h]
  rw [this]
  rfl
section
variable {P : Program} {w : World} {K : PySem.W.Frag} {mg : Str → Option Value} {base : Heap}
theorem scBegin : FnScope ["program"] ["program"] (defScope s_begin) := ⟨rfl, rfl, rfl, by decide +kernel, rfl, by decide +kernel, by decide +kernel⟩
theorem ok_begin {f aP aS aT CP fF : Addr} {fd fdF : FuncData} (F : Fun K "begin" "begin" s_begin f fd) (B : TxB mg) (T : TxtP P w K mg aP aS aT) (R : TxtG K mg CP)
    (GF : FnOk P w K mg base CX0 1 fF fdF ["self"] (spFirsts CP)) (bF : Binds K fdF ["self"] []) (mF : Meth K CP "first_values" fF) : FnOk P w K mg base CX0 2 f fd ["program"] (spBegin K CP) := by
  refine F.ok scBegin (fun vs H Q E h => ?_) (fun cdv A outer s H vs Q E hr h => ?_)
  · obtain ⟨p, fs, ds, rfl, _⟩ := h
    rfl
  · obtain ⟨p, fs, ds, rfl, hG, k⟩ := h
    obtain ⟨t1, h1⟩ := T.own
    obtain ⟨t2, h2⟩ := T.lck
    have nd := scBegin.nd
    refine ⟨_, pss_one (ps_ret (pe_tup (pa_cons (pe_op op_repT (pe_tup (pa_cons pe_int pa_nil)) (pe_fld (pv 0) rfl))
      (pa_cons (pe_op op_repT (pe_tup (pa_cons (pe_op op_repT (pe_tup (pa_cons pe_int pa_nil)) (pe_glob rfl h1 (v := .int 3) ⟨_, rfl⟩)) pa_nil)) (pe_fld (pv 0) rfl))
      (pa_cons (pe_callTy call_tupO rfl B.tup bTuple (pa_cons (pe_meth0 (pv 0) R.cl mF GF hr bF .nil pass0) pa_nil))
      (pa_cons (pe_op op_repT (pe_tup (pa_cons pe_non pa_nil)) (pe_glob rfl h2 (v := .int 3) ⟨_, rfl⟩))
      (pa_cons (pe_callTy call_tupO rfl B.tup bTuple (pa_cons (pe_comp (N := ["thread"]) (nt := 1) (fr := []) (te := tOp rEq (tVar 0) (tC (.int 0))) rfl
        (.of (XN := ["program"]) (osc := defScope s_begin) rfl rfl rfl (by decide +kernel) (by decide +kernel) (by decide +kernel) rfl (by decide +kernel)) (pi_range1 rfl B.rng (pa_cons (pe_fld (pv 0) rfl) pa_nil))
        (fun _ _ _ _ _ _ => ⟨pg_name (i := 0) ndTh rfl (Or.inl rfl) (Or.inr rfl), pif_nil, pe_cmpR op_eq (pv 0) pe_int (nomark _)⟩)) pa_nil)) pa_nil))))))), ?_⟩
    obtain ⟨dx, tf, tc, pvs, e1, e2, e3, e4⟩ := hG.a.ex
    have hm : ((codesC ds).length : Int) = (ds.length : Int) := by rw [codesC_len]
    rw [codesC_len] at e1
    refine ⟨(by show 1 ≤ sizeLine; decide), fun t0 n0 => ⟨_, rfl, p, CP, dx, _, _, rfl, same_new n0 _ _ e1, R.cl, R.nM, pflds_m _ _ _ _, t0, .int 0, ds.length, rfl, rfl, SqT.of upd_same, hG.c1, hG.c3, fun a Ha sa ha => ?_⟩⟩
    have s1 : Same H Ha := (same_new n0).trans sa
    clear sa
    refine ⟨(by show 1 ≤ sizeLine; decide), fun t1 n1 => ⟨t1, .int 0, 3, rfl, rfl, SqT.of upd_same, by decide, by decide, fun o Hb sb hb => ⟨(by show 1 ≤ sizeLine; decide), fun t2 n2 => ?_⟩⟩⟩
    have s2 : Same Ha (upd Hb t2 (.tup [.ref o])) := (same_new n1).trans (sb.trans (same_new n2))
    have ho : SqT K (upd Hb t2 (.tup [.ref o])) o [.int 0, .int 0, .int 0] := Same.sqT (same_new n2) hb
    have et2 : upd Hb t2 (.tup [.ref o]) t2 = some (.tup [.ref o]) := upd_same
    generalize upd Hb t2 (.tup [.ref o]) = Hc at s2 ho et2
    refine ⟨_, rfl, p, CP, dx, _, _, rfl, s2 _ _ (s1 _ _ e1), R.cl, R.nM, pflds_m _ _ _ _, t2, .ref o, ds.length, rfl, rfl, SqT.of et2, hG.c1, hG.c3, fun b Hd sd hb2 => ?_⟩
    have s3 : Same H Hd := s1.trans (s2.trans sd)
    have ha3 := Same.sqT (s2.trans sd) ha
    have ho3 := Same.sqT sd ho
    refine ⟨_, rfl, p, dx, _, rfl, s3 _ _ e1, lk_fvB _ _ _ _, p, fs, _, rfl, hG.a.same s3, fun lv nlv => ⟨lv, _, rfl, .inl ⟨SqL.of upd_same, fun c nc => ?_⟩⟩⟩
    have s4 : Same Hd (upd (upd Hd lv (.lst (fs.map V.int))) c (.tup (fs.map V.int))) := (same_new nlv).trans (same_new nc)
    have hc4 : upd (upd Hd lv (.lst (fs.map V.int))) c (.tup (fs.map V.int)) c = some (.tup (fs.map V.int)) := upd_same
    generalize upd (upd Hd lv (.lst (fs.map V.int))) c (.tup (fs.map V.int)) = He at s4 hc4
    refine ⟨(by show 1 ≤ sizeLine; decide), fun t3 n3 => ⟨t3, .non, 3, rfl, rfl, SqT.of upd_same, by decide, by decide, fun d Hf sf hd => ?_⟩⟩
    have s5 : Same He Hf := (same_new n3).trans sf
    have s35 := s4.trans s5
    have s05 := s3.trans s35
    dsimp only [tCons, tNil, tCB]
    refine tComp_rangeF (n := ds.length) (fun _ => true) (fun i => .bl (decide (i = 0))) (fun Q' q => ⟨_, rfl, p, CP, dx, _, _, rfl, s05 _ _ e1, R.cl, R.nM, pflds_m _ _ _ _, q⟩) (by have := hG.c3; omega) (fun D hD i ys Qt hi q => q) (fun D hD i ys Qe hi _ q => ⟨_, rfl, rfl, by
      rw [dec_int', show decide ((i : Int) = 0) = decide (i = 0) from decide_eq_decide.mpr (by omega)]
      exact q⟩) (fun D hD => ⟨D, _, rfl, .inl ⟨SqL.of upd_same, fun e ne => ⟨(by show 5 ≤ sizeLine; decide), fun r nr => ?_⟩⟩⟩)
    have s6 := (same_new (o := .lst ((((List.range ds.length).filter fun _ => true).map fun i => V.bl (decide (i = 0))))) hD).trans ((same_new (o := .tup ((((List.range ds.length).filter fun _ => true).map fun i => V.bl (decide (i = 0))))) ne).trans (same_new (o := .tup [.ref a, .ref b, .ref c, .ref d, .ref e]) nr))
    refine k (.ref r) _ (s05.trans s6) ⟨r, a, b, c, d, e, List.replicate ds.length (.ref o), rfl, SqT.of upd_same, ?_, ?_, ?_, ?_, ?_, ?_⟩
    · have := Same.sqT (s35.trans s6) ha3
      rw [show (beg ds.length fs).li.map vN = List.replicate ds.length (V.int 0) by simp [beg, vN]]
      exact this
    · exact Same.sqT (s35.trans s6) hb2
    · have hq := Same.sqT (s35.trans s6) ho3
      generalize upd _ r (HO.tup [.ref a, .ref b, .ref c, .ref d, .ref e]) = Hz at hq
      show Paired (SqI K Hz) (List.replicate ds.length (V.ref o)) (List.replicate ds.length [0, 0, 0])
      generalize ds.length = m
      induction m with
      | zero => exact .nil
      | succ m ih => exact .cons ⟨o, rfl, hq⟩ ih
    · exact Same.sqT (s5.trans s6) (SqT.of hc4)
    · exact Same.sqT s6 hd
    · have : upd (upd _ e (.tup ((((List.range ds.length).filter fun _ => true).map fun i => V.bl (decide (i = 0)))))) r (.tup [.ref a, .ref b, .ref c, .ref d, .ref e]) e = some _ := same_new nr _ _ upd_same
      refine SqT.of (this.trans ?_)
      rw [List.filter_eq_self.mpr (fun _ _ => rfl)]
      show some (HO.tup _) = some (HO.tup (((List.range ds.length).map fun t => decide (t = 0)).map V.bl))
      rw [List.map_map]
      rfl
end
end K
namespace K
open PySem L2 RC
section
variable {P : Program} {w : World} {K : PySem.W.Frag} {mg : Str → Option Value} {base : Heap}
theorem scEnd : FnScope ["program", "state", "thread"] ["program", "state", "thread"] (defScope s_ended) := ⟨rfl, rfl, rfl, by decide +kernel, rfl, by decide +kernel, by decide +kernel⟩
theorem ok_end {f CP fC : Addr} {fd fdC : FuncData} (F : Fun K "ended" "ended" s_ended f fd) (B : TxB mg) (R : TxtG K mg CP)
    (GC : FnOk P w K mg base CX0 1 fC fdC ["self", "thread"] (spCode CP)) (bC : Binds K fdC ["self", "thread"] []) (mC : Meth K CP "code" fC) : FnOk P w K mg base CX0 2 f fd ["program", "state", "thread"] (spEnd K CP) := by
  refine F.ok scEnd (fun vs H Q E h => ?_) (fun cdv A outer s H vs Q E hr h => ?_)
  · obtain ⟨p, fs, ds, v, s, t, rfl, _⟩ := h
    rfl
  · obtain ⟨p, fs, ds, v, st, t, rfl, hG, ⟨r, a, b, c, d, e, os, rfl, h0, h1, _⟩, W, ht, k⟩ := h
    obtain ⟨dx, tf, tc, pvs, e1, e2, e3, e4⟩ := hG.a.ex
    refine ⟨_, pss_one (ps_ret (pe_cmpR op_ge (pe_ix ix_tup (pe_ix ix_tup (pv 1) pe_int (fun _ _ => rfl)) (pv 2) (fun _ _ => rfl)) (pe_callB call_len_seq (by rfl) B.len PySem.boot_len (pa_cons (pe_meth (pv 0) R.cl mC GC hr bC .nil pass0 (pa_cons (pv 2) pa_nil)) pa_nil)) (nomark _))), ?_⟩
    refine ⟨_, rfl, r, _, _, .ref a, rfl, rfl, h0, atI_nat (j := 0) rfl, _, rfl, a, _, _, vN (st.li.getD t 0), rfl, rfl, h1, map_at (by rw [W.li]; exact ht), ?_⟩
    refine ⟨_, rfl, p, dx, _, rfl, e1, lk_codeB _ _ _ _, _, rfl, p, fs, _, t, _, rfl, hG.a, codesC_get ht, fun l us nl hl => ⟨l, us, rfl, .inl (SqL.of upd_same), _, _, rfl, rfl, ?_⟩⟩
    have q := k _ (same_new (o := .lst us) nl)
    have lu := RC.Paired.len hl
    have : decide ((us.length : Int) ≤ ((st.li.getD t 0 : Nat) : Int)) = endB ds st t := by
      unfold endB
      rw [lu]
      unfold linesC
      rw [List.length_map]
      exact decide_eq_decide.mpr (by omega)
    rw [← this] at q
    exact q
theorem scNext : FnScope ["program", "state", "thread"] ["program", "state", "thread"] (defScope s_next_line) := ⟨rfl, rfl, rfl, by decide +kernel, rfl, by decide +kernel, by decide +kernel⟩
theorem ok_next {f CP fL : Addr} {fd fdL : FuncData} (F : Fun K "next_line" "next_line" s_next_line f fd) (R : TxtG K mg CP)
    (GL : FnOk P w K mg base CX0 1 fL fdL ["self", "thread", "number"] (spPLine CP)) (bL : Binds K fdL ["self", "thread", "number"] []) (mL : Meth K CP "line" fL) : FnOk P w K mg base CX0 2 f fd ["program", "state", "thread"] (spNext K CP) := by
  refine F.ok scNext (fun vs H Q E h => ?_) (fun cdv A outer s H vs Q E hr h => ?_)
  · obtain ⟨p, fs, ds, v, s, t, rfl, _⟩ := h
    rfl
  · obtain ⟨p, fs, ds, v, st, t, rfl, hG, ⟨r, a, b, c, d, e, os, rfl, h0, h1, _⟩, W, ht, k⟩ := h
    obtain ⟨dx, tf, tc, pvs, e1, e2, e3, e4⟩ := hG.a.ex
    refine ⟨_, pss_one (ps_ret (pe_meth (pv 0) R.cl mL GL hr bL .nil pass0 (pa_cons (pv 2) (pa_cons (pe_ix ix_tup (pe_ix ix_tup (pv 1) pe_int (fun _ _ => rfl)) (pv 2) (fun _ _ => rfl)) pa_nil)))), ?_⟩
    refine ⟨_, rfl, p, dx, _, rfl, e1, lk_lineB _ _ _ _, _, rfl, _, rfl, r, _, _, .ref a, rfl, rfl, h0, atI_nat (j := 0) rfl, _, rfl, a, _, _, vN (st.li.getD t 0), rfl, rfl, h1, map_at (by rw [W.li]; exact ht), ?_⟩
    refine ⟨p, fs, _, t, _, ((st.li.getD t 0 : Nat) : Int), rfl, hG.a, codesC_get ht, fun u hu => k u ?_⟩
    rw [if_pos (by omega), show (((st.li.getD t 0 : Nat) : Int)).toNat = st.li.getD t 0 from rfl] at hu
    unfold linesC at hu
    rw [List.getElem?_map] at hu
    exact hu
theorem scLets : FnScope ["program", "state", "thread", "line", "holders", "awake"] ["program", "state", "thread", "line"] (defScope s_lets) := ⟨rfl, rfl, rfl, by decide +kernel, rfl, by decide +kernel, by decide +kernel⟩
theorem ok_lets {f CP fE : Addr} {fd fdE : FuncData} (F : Fun K "lets" "lets" s_lets f fd)
    (GE : FnOk P w K mg base CX0 2 fE fdE ["program", "state", "thread"] (spEnd K CP)) (cE : Cal K mg "ended" fE fdE ["program", "state", "thread"]) : FnOk P w K mg base CX0 3 f fd ["program", "state", "thread", "line"] (spLets K CP) := by
  refine F.ok scLets (fun vs H Q E h => ?_) (fun cdv A outer s H vs Q E hr h => ?_)
  · obtain ⟨p, fs, ds, v, u, s, t, c, rfl, _⟩ := h
    rfl
  · obtain ⟨p, fs, ds, v, u, st, t, cm, rfl, hG, hS, W, hL, ok, k⟩ := h
    have nd := scLets.nd
    obtain ⟨r, a, b, c, d, e, os, rfl, h0, h1, h2, h3, h4, h5, h6⟩ := id hS
    obtain ⟨lr, us, rfl, elr, _⟩ := id hL
    have w0 : ∀ (H' : Hp), Same H H' → SqT K H' lr (.str cm.line.1 :: us) := fun H' s' => SqT.of (s' _ _ elr)
    refine ⟨_, pss_cons (ps_asg (pe_slice sl_tup (pv 1) (po_some pe_int) po_none) (pg_tup rfl (pgs_cons (pg_name (i := 4) nd rfl (Or.inl rfl)) (pgs_cons (pg_name (i := 5) nd rfl (Or.inl rfl)) pgs_nil))))
      (pss_cons (ps_if (pt_cmpR op_eq (pe_ix ix_tup (pv 3) pe_int (fun _ _ => rfl)) pe_str (nomark _)) (pss_one (ps_ret (pe_cmpR op_isN (pe_ix ix_tup (pv 4) (pe_ix ix_tup (pv 3) pe_int (fun _ _ => rfl)) (fun _ _ => rfl)) pe_non (nomark _)))) pss_nil)
      (pss_cons (ps_if (pt_cmpR op_eq (pe_ix ix_tup (pv 3) pe_int (fun _ _ => rfl)) pe_str (nomark _)) (pss_one (ps_ret (pe_cmpR op_eq (pe_ix ix_tup (pv 4) (pe_ix ix_tup (pv 3) pe_int (fun _ _ => rfl)) (fun _ _ => rfl)) (pv 2) (nomark _)))) pss_nil)
      (pss_cons (ps_if (pt_cmpR op_eq (pe_ix ix_tup (pv 3) pe_int (fun _ _ => rfl)) pe_str (nomark _)) (pss_one (ps_ret (pe_not (pe_ix ix_tup (pv 5) (pe_ix ix_tup (pv 3) pe_int (fun _ _ => rfl)) (fun _ _ => rfl))))) pss_nil)
      (pss_cons (ps_if (pt_cmpR op_eq (pe_ix ix_tup (pv 3) pe_int (fun _ _ => rfl)) pe_str (nomark _)) (pss_one (ps_ret (pe_and (pe_ix ix_tup (pv 5) (pe_ix ix_tup (pv 3) pe_int (fun _ _ => rfl)) (fun _ _ => rfl)) (pe_one (pe_call GE hr rfl cE.mgf cE.kp cE.b .nil pass0 (pa_cons (pv 0) (pa_cons (pv 1) (pa_cons (pe_ix ix_tup (pv 3) pe_int (fun _ _ => rfl)) pa_nil)))))))) pss_nil)
      (pss_one (ps_ret pe_bl)))))), ?_⟩
    refine ⟨_, rfl, 3, rfl, r, _, rfl, h0, fun z => (by have := z.1; cases this), fun q nq => ?_⟩
    have s1 : Same H (upd H q (.tup (cutV [.ref a, .ref b, .ref c, .ref d, .ref e] (some 3) none))) := same_new nq
    have eq1 : upd H q (.tup (cutV [.ref a, .ref b, .ref c, .ref d, .ref e] (some 3) none)) q = some (.tup [.ref d, .ref e]) := upd_same
    generalize upd H q (.tup (cutV [.ref a, .ref b, .ref c, .ref d, .ref e] (some 3) none)) = H1 at s1 eq1
    refine ⟨q, _, rfl, SqT.of eq1, rfl, _, _, rfl, _, _, rfl, rfl, ?_⟩
    dsimp only [gName]
    have h5 := Same.sqT s1 h5
    have h6 := Same.sqT s1 h6
    have wd : ∀ x : Str, PuT (tTest (tOp rEq (tOp (rIxT K) (tVar 3) (tC (.int 0))) (tC (.str x)))) [some (.ref p), some (.ref r), some (.int (t : Int)), some (.ref lr), some (.ref d), some (.ref e)] H1 (decide (cm.line.1 = x)) := fun x Qt q => ⟨_, rfl, lr, _, _, .str cm.line.1, rfl, rfl, w0 H1 s1, atI_nat (j := 0) rfl, rfl, _, rfl, by rw [dec_str']; exact q⟩
    refine PuT.ifs (c := cm.line.1 = "take") (wd _) (fun z => ?_) (fun z1 => ?_)
    · obtain ⟨x, rfl⟩ := is_take z
      obtain ⟨lr', e', er'⟩ := line1 hL
      cases e'
      have ok : x < 3 := ok
      refine ⟨_, rfl, _, rfl, lr, _, _, .int (x : Int), rfl, rfl, SqT.of (s1 _ _ er'), rfl, d, _, _, vH (st.ho.getD x none), rfl, rfl, h5, map_at (by rw [W.ho]; exact ok), rfl, ?_⟩
      rw [dec_vN]
      exact k H1 s1
    refine PuT.ifs (c := cm.line.1 = "give") (wd _) (fun z => ?_) (fun z2 => ?_)
    · obtain ⟨x, rfl⟩ := is_give z
      obtain ⟨lr', e', er'⟩ := line1 hL
      cases e'
      have ok : x < 3 := ok
      refine ⟨_, rfl, _, rfl, lr, _, _, .int (x : Int), rfl, rfl, SqT.of (s1 _ _ er'), rfl, d, _, _, vH (st.ho.getD x none), rfl, rfl, h5, map_at (by rw [W.ho]; exact ok), _, rfl, scal_vH _ _, ?_⟩
      rw [dec_vH]
      exact k H1 s1
    refine PuT.ifs (c := cm.line.1 = "fork") (wd _) (fun z => ?_) (fun z3 => ?_)
    · obtain ⟨x, rfl⟩ := is_fork z
      obtain ⟨lr', e', er'⟩ := line1 hL
      cases e'
      have ok : x < ds.length := ok
      exact ⟨_, rfl, _, rfl, lr, _, _, .int (x : Int), rfl, rfl, SqT.of (s1 _ _ er'), rfl, e, _, _, .bl (st.aw.getD x false), rfl, rfl, h6, map_at (by rw [W.aw]; exact ok), _, rfl, k H1 s1⟩
    refine PuT.ifs (c := cm.line.1 = "wait") (wd _) (fun z => ?_) (fun z4 => ?_)
    · obtain ⟨x, rfl⟩ := is_wait z
      obtain ⟨lr', e', er'⟩ := line1 hL
      cases e'
      have ok : x < ds.length := ok
      refine ⟨_, rfl, _, rfl, lr, _, _, .int (x : Int), rfl, rfl, SqT.of (s1 _ _ er'), rfl, e, _, _, .bl (st.aw.getD x false), rfl, rfl, h6, map_at (by rw [W.aw]; exact ok), st.aw.getD x false, rfl, ?_⟩
      cases ea : st.aw.getD x false with
      | false =>
        have q := k H1 s1
        have eb : letB ds st t (.wait x) = false := by show (st.aw.getD x false && endB ds st x) = false; rw [ea]; rfl
        rw [eb] at q
        exact iteF q
      | true =>
        have eb : letB ds st t (.wait x) = endB ds st x := by show (st.aw.getD x false && endB ds st x) = _; rw [ea]; rfl
        rw [eb] at k
        exact iteT ⟨_, rfl, _, rfl, _, rfl, lr, _, _, .int (x : Int), rfl, rfl, SqT.of (s1 _ _ er'), rfl, p, fs, ds, .ref r, st, x, rfl, hG.same s1, hS.same s1, W, ok, fun H' s' => k H' (s1.trans s')⟩
    · have q := k H1 s1
      rw [letB_else z1 z2 z3 z4] at q
      exact q
theorem scMay : FnScope ["program", "state", "thread"] ["program", "state", "thread"] (defScope s_may_move) := ⟨rfl, rfl, rfl, by decide +kernel, rfl, by decide +kernel, by decide +kernel⟩
theorem ok_may {f CP fE fN fL : Addr} {fd fdE fdN fdL : FuncData} (F : Fun K "may_move" "may_move" s_may_move f fd) (R : TxtG K mg CP)
    (GE : FnOk P w K mg base CX0 2 fE fdE ["program", "state", "thread"] (spEnd K CP)) (cE : Cal K mg "ended" fE fdE ["program", "state", "thread"])
    (GN : FnOk P w K mg base CX0 2 fN fdN ["program", "state", "thread"] (spNext K CP)) (cN : Cal K mg "next_line" fN fdN ["program", "state", "thread"])
    (GL : FnOk P w K mg base CX0 3 fL fdL ["program", "state", "thread", "line"] (spLets K CP)) (cL : Cal K mg "lets" fL fdL ["program", "state", "thread", "line"]) : FnOk P w K mg base CX0 4 f fd ["program", "state", "thread"] (spMay K CP) := by
  refine F.ok scMay (fun vs H Q E h => ?_) (fun cdv A outer s H vs Q E hr h => ?_)
  · obtain ⟨p, fs, ds, v, s, t, rfl, _⟩ := h
    rfl
  · obtain ⟨p, fs, ds, v, st, t, rfl, hG, hS, W, k⟩ := h
    have hr2 : Room 2 _ := hr.mono (by decide)
    obtain ⟨dx, tf, tc, pvs, e1, e2, e3, e4⟩ := hG.a.ex
    obtain ⟨r, a, b, c, d, e, os, rfl, h0, h1, h2, h3, h4, h5, h6⟩ := id hS
    refine ⟨_, pss_cons (ps_if (pt_not (pt_chain op_le op_lt pe_int (pv 2) (pe_fld (pv 0) rfl))) (pss_one (ps_ret pe_bl)) pss_nil)
      (pss_cons (ps_if (PW.pt (pw_or (pt_not (pt_val (pe_ix ix_tup (pe_ix ix_tup (pv 1) pe_int (fun _ _ => rfl)) (pv 2) (fun _ _ => rfl)))) (pw_or1 (pt_val (pe_call GE hr2 rfl cE.mgf cE.kp cE.b .nil pass0 (pa_cons (pv 0) (pa_cons (pv 1) (pa_cons (pv 2) pa_nil)))))))) (pss_one (ps_ret pe_bl)) pss_nil)
      (pss_one (ps_ret (pe_call GL hr rfl cL.mgf cL.kp cL.b .nil pass0 (pa_cons (pv 0) (pa_cons (pv 1) (pa_cons (pv 2) (pa_cons (pe_call GN hr2 rfl cN.mgf cN.kp cN.b .nil pass0 (pa_cons (pv 0) (pa_cons (pv 1) (pa_cons (pv 2) pa_nil)))) pa_nil)))))))), ?_⟩
    refine PuT.ret (c := ¬ (0 ≤ t ∧ t < (ds.length : Int))) (PuT.eq (PuT.not (a := decide (0 ≤ t ∧ t < (ds.length : Int))) (PuE.chain (fun Q q => q) (fun Q q => ⟨_, rfl, q⟩) (fun Q q => ⟨_, rfl, p, CP, dx, _, _, rfl, e1, R.cl, R.nM, pflds_m _ _ _ _, by rw [codesC_len]; exact q⟩)).test) (by rw [decide_not])) (fun z => ?_) (fun z => ?_)
    · have q := k H (Same.refl _)
      unfold mayI at q
      rw [if_neg z] at q
      exact q
    have z := Decidable.not_not.mp z
    obtain ⟨j, rfl⟩ : ∃ j : Nat, t = j := ⟨t.toNat, by omega⟩
    have hj : j < ds.length := by omega
    have em : mayI ds st (j : Int) = mayB ds st j := by unfold mayI; rw [if_pos z]; rfl
    rw [em] at k
    refine PuS.ifs (c := st.aw.getD j false = false ∨ cmdAt ds st j = none) ((PuS.or (a := !st.aw.getD j false) (b := endB ds st j) (PuT.pus (PuT.not (fun Qt q => ⟨_, rfl, r, _, _, .ref e, rfl, rfl, h0, atI_nat (j := 4) rfl, _, rfl, e, _, _, .bl (st.aw.getD j false), rfl, rfl, h6, map_at (by rw [W.aw]; exact hj), _, rfl, q⟩)))
      (fun _ H1 s1 Qt q => ⟨_, rfl, _, rfl, _, rfl, p, fs, ds, .ref r, st, j, rfl, hG.same s1, hS.same s1, W, hj, fun H' s' => ⟨_, rfl, q H' s'⟩⟩)).iff (by rw [Bool.or_eq_true, cmdAt_end]; simp)) (fun H1 s1 z => ?_) (fun H1 s1 z => ?_)
    · have q := k H1 s1
      have : mayB ds st j = false := by
        unfold mayB
        rcases z with z | z
        · rw [z]; rfl
        · rw [z, Bool.and_false]
      rw [this] at q
      exact q
    · obtain ⟨cm, ec⟩ := Option.ne_none_iff_exists'.mp (fun y => z (.inr y))
      have ea : st.aw.getD j false = true := by
        cases q : st.aw.getD j false with
        | true => rfl
        | false => exact absurd (.inl q) z
      refine ⟨_, rfl, _, rfl, _, rfl, _, rfl, _, rfl, _, rfl, p, fs, ds, .ref r, st, j, rfl, hG.same s1, hS.same s1, W, hj, fun u hu => ?_⟩
      rw [ec] at hu
      refine ⟨p, fs, ds, .ref r, u, st, j, cm, rfl, hG.same s1, hS.same s1, W, hu, cmdAt_ok hG.ok ec, fun H' s' => ?_⟩
      have q := k H' (s1.trans s')
      have : mayB ds st j = letB ds st j cm := by
        unfold mayB
        rw [ea, ec]
        rfl
      rw [this] at q
      exact q
end
end K
namespace K
open PySem L2 RC
def spPut (K : PySem.W.Frag) : Sp := fun vs H Q _ => ∃ (a : Addr) (xs : List V) (i : Nat) (u : V), vs = [.ref a, .int (i : Int), u] ∧ SqT K H a xs ∧ i < xs.length ∧ xs.length ≤ 1000 ∧ ∀ p H', Same H H' → SqT K H' p (xs.set i u) → Q (.ref p) H'
def spVO (K : PySem.W.Frag) : Sp := fun vs H Q _ => ∃ (a : Addr) (own : List Int) (u : V) (x : Va), vs = [.ref a, u] ∧ SqT K H a (own.map V.int) ∧ PartAt H u x.part ∧ x.ok ∧ own.length = 3 ∧ Q (.int (valV' own x)) H
def spSo (K : PySem.W.Frag) : Sp := fun vs H Q _ => ∃ (a : Addr) (own : List Int) (u v : V) (x y : Va) (ts : Str), vs = [.ref a, u, .str ts, v] ∧ SqT K H a (own.map V.int) ∧ PartAt H u x.part ∧ x.ok ∧ PartAt H v y.part ∧ y.ok ∧ own.length = 3 ∧ Q (.bl (tstB own x ts y)) H
def spReck (K : PySem.W.Frag) : Sp := fun vs H Q _ => ∃ (a : Addr) (own : List Int) (u v : V) (x y : Va) (sg : Str), vs = [.ref a, u, .str sg, v] ∧ SqT K H a (own.map V.int) ∧ PartAt H u x.part ∧ x.ok ∧ PartAt H v y.part ∧ y.ok ∧ own.length = 3 ∧ Q (.int (if sg = "+" then valV' own x + valV' own y else valV' own x - valV' own y)) H
def spNB (K : PySem.W.Frag) (m n : Nat) : Sp := fun vs H Q _ => ∃ (a : Addr) (own : List Int) (u : V) (c : Cmd) (l : Nat), vs = [u, .int (l : Int), .ref a] ∧ SqT K H a (own.map V.int) ∧ LineAt H u c.line ∧ (∃ m n, c.ok m n) ∧ own.length = 3 ∧ Q (vN (lineB l own c)) H
def spOB (K : PySem.W.Frag) : Sp := fun vs H Q _ => ∃ (a b : Addr) (own va : List Int) (u : V) (c : Cmd), vs = [u, .ref a, .ref b] ∧ SqT K H a (own.map V.int) ∧ SqT K H b (va.map V.int) ∧ LineAt H u c.line ∧ (∃ m, c.ok m va.length) ∧ own.length = 3 ∧ ∀ p H', Same H H' → SqT K H' p ((ownB own va c).map V.int) → Q (.ref p) H'
def spVB (K : PySem.W.Frag) : Sp := fun vs H Q _ => ∃ (a b : Addr) (own va : List Int) (u : V) (c : Cmd), vs = [u, .ref a, .ref b] ∧ SqT K H a (own.map V.int) ∧ SqT K H b (va.map V.int) ∧ LineAt H u c.line ∧ (∃ m, c.ok m va.length) ∧ own.length = 3 ∧ va.length ≤ 4 ∧ ∀ p H', Same H H' → SqT K H' p ((vaB own va c).map V.int) → Q (.ref p) H'
def spHB (K : PySem.W.Frag) : Sp := fun vs H Q _ => ∃ (b : Addr) (ho : List (Option Nat)) (u : V) (c : Cmd) (t : Nat), vs = [u, .int (t : Int), .ref b] ∧ SqT K H b (ho.map vH) ∧ LineAt H u c.line ∧ (∃ m n, c.ok m n) ∧ ho.length = 3 ∧ ∀ p H', Same H H' → SqT K H' p ((hoB t ho c).map vH) → Q (.ref p) H'
def spAB (K : PySem.W.Frag) : Sp := fun vs H Q _ => ∃ (b : Addr) (aw : List Bool) (u : V) (c : Cmd), vs = [u, .ref b] ∧ SqT K H b (aw.map V.bl) ∧ LineAt H u c.line ∧ (∃ n, c.ok aw.length n) ∧ aw.length ≤ 3 ∧ ∀ p H', Same H H' → SqT K H' p ((awB aw c).map V.bl) → Q (.ref p) H'
theorem va_at {H : Hp} {u : V} {x : Va} (h : PartAt H u x.part) : ∃ r, u = .ref r ∧ H r = some (.tup [.str (match x with | .own _ => "own" | .num _ => "number"), .int (match x with | .own k => (k : Int) | .num n => n)]) := by
  cases x with
  | own k => exact h
  | num n => exact h
theorem line_read {H : Hp} {u : V} {o n : Nat} (h : LineAt H u (Cmd.read o n).line) : ∃ r, u = .ref r ∧ H r = some (.tup [.str "read", .int (o : Int), .int (n : Int)]) := by
  obtain ⟨r, us, e, er, p⟩ := h
  cases p with
  | cons a b => cases b with
    | cons a2 b => cases b; have a : _ = V.int _ := a; have a2 : _ = V.int _ := a2; subst a; subst a2; exact ⟨r, e, er⟩
theorem line_write {H : Hp} {u : V} {n : Nat} {v : Va} (h : LineAt H u (Cmd.write n v).line) : ∃ r x, u = .ref r ∧ H r = some (.tup [.str "write", .int (n : Int), x]) ∧ PartAt H x v.part := by
  obtain ⟨r, us, e, er, p⟩ := h
  cases p with
  | cons a b => cases b with
    | cons a2 b => cases b; have a : _ = V.int _ := a; subst a; exact ⟨r, _, e, er, a2⟩
theorem line_set {H : Hp} {u : V} {o : Nat} {a b : Va} {sg : Str} (h : LineAt H u (Cmd.set o a sg b).line) : ∃ r x y, u = .ref r ∧ H r = some (.tup [.str "set", .int (o : Int), x, .str sg, y]) ∧ PartAt H x a.part ∧ PartAt H y b.part := by
  obtain ⟨r, us, e, er, p⟩ := h
  cases p with
  | cons a1 p => cases p with
    | cons a2 p => cases p with
      | cons a3 p => cases p with
        | cons a4 p => cases p; have a1 : _ = V.int _ := a1; have a3 : _ = V.str _ := a3; subst a1; subst a3; exact ⟨r, _, _, e, er, a2, a4⟩
theorem line_skip {H : Hp} {u : V} {k : Nat} {a b : Va} {ts : Str} (h : LineAt H u (Cmd.skip a ts b k).line) : ∃ r x y, u = .ref r ∧ H r = some (.tup [.str "skip", x, .str ts, y, .int (k : Int)]) ∧ PartAt H x a.part ∧ PartAt H y b.part := by
  obtain ⟨r, us, e, er, p⟩ := h
  cases p with
  | cons a1 p => cases p with
    | cons a2 p => cases p with
      | cons a3 p => cases p with
        | cons a4 p => cases p; have a2 : _ = V.str _ := a2; have a4 : _ = V.int _ := a4; subst a2; subst a4; exact ⟨r, _, _, e, er, a1, a3⟩
theorem set_cat {α : Type} (l : List α) (i : Nat) (x : α) (h : i < l.length) : l.take i ++ [x] ++ l.drop (i + 1) = l.set i x := by
  rw [List.set_eq_take_append_cons_drop, if_pos h, List.append_assoc]
  rfl
theorem map_set' {α : Type} (l : List α) (f : α → V) (i : Nat) (x : α) : (l.set i x).map f = (l.map f).set i (f x) := by rw [List.map_set]
section
variable {P : Program} {w : World} {K : PySem.W.Frag} {mg : Str → Option Value} {base : Heap}
theorem scPut : FnScope ["parts", "place", "part"] ["parts", "place", "part"] (defScope s_put) := ⟨rfl, rfl, rfl, by decide +kernel, rfl, by decide +kernel, by decide +kernel⟩
theorem ok_put {f : Addr} {fd : FuncData} (F : Fun K "put" "put" s_put f fd) : FnOk P w K mg base CX0 1 f fd ["parts", "place", "part"] (spPut K) := by
  refine F.ok scPut (fun vs H Q E h => ?_) (fun cdv A outer s H vs Q E hr h => ?_)
  · obtain ⟨a, xs, i, u, rfl, _⟩ := h
    rfl
  · obtain ⟨a, xs, i, u, rfl, ha, hi, hl, k⟩ := h
    refine ⟨_, pss_one (ps_ret (pe_op op_catG (pe_op op_catG (pe_slice sl_tup (pv 0) po_none (po_some (pv 1))) (pe_tup (pa_cons (pv 2) pa_nil))) (pe_slice sl_tup (pv 0) (po_some (pe_op op_add (pv 1) pe_int)) po_none))), ?_⟩
    have hz : xs.length < sizeLine := small1000 hl
    refine ⟨_, rfl, _, rfl, (i : Int), rfl, a, xs, rfl, ha, fun z => ?_, fun p1 n1 => ⟨_, rfl, (by show 1 ≤ sizeLine; decide), fun p2 n2 => ?_⟩⟩
    · have := z.2
      rw [HT.sIx_nat] at this
      omega
    have s1 : Same H (upd H p1 (.tup (cutV xs none (some (i : Int))))) := same_new n1
    have e1 : upd H p1 (.tup (cutV xs none (some (i : Int)))) p1 = some (.tup (xs.take i)) := by rw [upd_same, cutV_take]
    generalize upd H p1 (.tup (cutV xs none (some (i : Int)))) = H1 at s1 e1 n2
    have s2 : Same H1 (upd H1 p2 (.tup [u])) := same_new n2
    refine ⟨p1, p2, _, _, rfl, rfl, SqT.of (s2 _ _ e1), SqT.of upd_same, by rw [List.length_take, List.length_singleton]; omega, fun p3 H3 s3 h3 => ?_⟩
    have s13 : Same H H3 := s1.trans (s2.trans s3)
    refine ⟨_, rfl, _, rfl, _, _, rfl, rfl, ((i + 1 : Nat) : Int), rfl, a, xs, rfl, Same.sqT s13 ha, fun z => ?_, fun p4 n4 => ?_⟩
    · have := z.1
      rw [HT.sIx_nat] at this
      omega
    have s4 : Same H3 (upd H3 p4 (.tup (cutV xs (some ((i + 1 : Nat) : Int)) none))) := same_new n4
    refine ⟨p3, p4, _, _, rfl, rfl, Same.sqT s4 h3, SqT.of upd_same, by rw [cutV_drop, List.length_append, List.length_take, List.length_singleton, List.length_drop]; omega, fun p5 H5 s5 h5 => k p5 H5 (s13.trans (s4.trans s5)) ?_⟩
    rw [cutV_drop, set_cat xs i u hi] at h5
    exact h5
theorem scVO : FnScope ["own", "value", "kind", "number"] ["own", "value"] (defScope s_value_of) := ⟨rfl, rfl, rfl, by decide +kernel, rfl, by decide +kernel, by decide +kernel⟩
theorem ok_vo {f : Addr} {fd : FuncData} (F : Fun K "value_of" "value_of" s_value_of f fd) : FnOk P w K mg base CX0 1 f fd ["own", "value"] (spVO K) := by
  refine F.ok scVO (fun vs H Q E h => ?_) (fun cdv A outer s H vs Q E hr h => ?_)
  · obtain ⟨a, own, u, x, rfl, _⟩ := h
    rfl
  · obtain ⟨a, own, u, x, rfl, ha, hu, ox, ol, k⟩ := h
    have nd := scVO.nd
    obtain ⟨r, rfl, er⟩ := va_at hu
    refine ⟨_, pss_cons (ps_asg (pv 1) (pg_tup rfl (pgs_cons (pg_name (i := 2) nd rfl (Or.inl rfl)) (pgs_cons (pg_name (i := 3) nd rfl (Or.inl rfl)) pgs_nil)))) (pss_one (ps_ret (pe_ifExp (pt_cmpR op_eq (pv 2) pe_str (nomark _)) (pe_ix ix_tup (pv 0) (pv 3) (fun _ _ => rfl)) (pv 3)))), ?_⟩
    refine ⟨_, rfl, r, _, rfl, SqT.of er, rfl, _, _, rfl, _, _, rfl, rfl, ?_⟩
    dsimp only [gName]
    cases x with
    | own j =>
      have ox : j < 3 := ox
      refine ⟨_, rfl, rfl, true, by rw [dec_str', decide_eq_true rfl], iteT ⟨_, rfl, _, rfl, a, _, _, .int (own.getD j 0), rfl, rfl, ha, map_at (by omega), k⟩⟩
    | num j =>
      refine ⟨_, rfl, rfl, false, by rw [dec_str', decide_eq_false (show ¬ (("number" : Str) = "own") by decide +kernel)], iteF ⟨_, rfl, k⟩⟩
theorem scSo : FnScope ["own", "one", "test", "other"] ["own", "one", "test", "other"] (defScope s_is_so) := ⟨rfl, rfl, rfl, by decide +kernel, rfl, by decide +kernel, by decide +kernel⟩
theorem ok_so {f fV : Addr} {fd fdV : FuncData} (F : Fun K "is_so" "is_so" s_is_so f fd) (GV : FnOk P w K mg base CX0 1 fV fdV ["own", "value"] (spVO K)) (cV : Cal K mg "value_of" fV fdV ["own", "value"]) : FnOk P w K mg base CX0 2 f fd ["own", "one", "test", "other"] (spSo K) := by
  refine F.ok scSo (fun vs H Q E h => ?_) (fun cdv A outer s H vs Q E hr h => ?_)
  · obtain ⟨a, own, u, v, x, y, ts, rfl, _⟩ := h
    rfl
  · obtain ⟨a, own, u, v, x, y, ts, rfl, ha, hu, ox, hv, oy, ol, k⟩ := h
    refine ⟨_, pss_cons (ps_if (pt_cmpR op_eq (pv 2) pe_str (nomark _)) (pss_one (ps_ret (pe_cmpR op_eq (pe_call GV hr rfl cV.mgf cV.kp cV.b .nil pass0 (pa_cons (pv 0) (pa_cons (pv 1) pa_nil))) (pe_call GV hr rfl cV.mgf cV.kp cV.b .nil pass0 (pa_cons (pv 0) (pa_cons (pv 3) pa_nil))) (nomark _)))) pss_nil)
      (pss_one (ps_ret (pe_cmpR op_lt (pe_call GV hr rfl cV.mgf cV.kp cV.b .nil pass0 (pa_cons (pv 0) (pa_cons (pv 1) pa_nil))) (pe_call GV hr rfl cV.mgf cV.kp cV.b .nil pass0 (pa_cons (pv 0) (pa_cons (pv 3) pa_nil))) (nomark _)))), ?_⟩
    refine PuT.ifs (c := ts = "==") (fun Qt q => ⟨_, rfl, rfl, _, rfl, by rw [dec_str']; exact q⟩) (fun z => ?_) (fun z => ?_)
    · refine ⟨_, rfl, _, rfl, a, own, u, x, rfl, ha, hu, ox, ol, _, rfl, _, rfl, a, own, v, y, rfl, ha, hv, oy, ol, rfl, ?_⟩
      rw [dec_int']
      unfold tstB at k
      rw [if_pos z] at k
      exact k
    · refine ⟨_, rfl, _, rfl, a, own, u, x, rfl, ha, hu, ox, ol, _, rfl, _, rfl, a, own, v, y, rfl, ha, hv, oy, ol, _, _, rfl, rfl, ?_⟩
      unfold tstB at k
      rw [if_neg z] at k
      exact k
theorem scReck : FnScope ["own", "one", "sign", "other"] ["own", "one", "sign", "other"] (defScope s_reckoned) := ⟨rfl, rfl, rfl, by decide +kernel, rfl, by decide +kernel, by decide +kernel⟩
theorem ok_reck {f fV : Addr} {fd fdV : FuncData} (F : Fun K "reckoned" "reckoned" s_reckoned f fd) (GV : FnOk P w K mg base CX0 1 fV fdV ["own", "value"] (spVO K)) (cV : Cal K mg "value_of" fV fdV ["own", "value"]) : FnOk P w K mg base CX0 2 f fd ["own", "one", "sign", "other"] (spReck K) := by
  refine F.ok scReck (fun vs H Q E h => ?_) (fun cdv A outer s H vs Q E hr h => ?_)
  · obtain ⟨a, own, u, v, x, y, ts, rfl, _⟩ := h
    rfl
  · obtain ⟨a, own, u, v, x, y, ts, rfl, ha, hu, ox, hv, oy, ol, k⟩ := h
    refine ⟨_, pss_cons (ps_if (pt_cmpR op_eq (pv 2) pe_str (nomark _)) (pss_one (ps_ret (pe_op op_add (pe_call GV hr rfl cV.mgf cV.kp cV.b .nil pass0 (pa_cons (pv 0) (pa_cons (pv 1) pa_nil))) (pe_call GV hr rfl cV.mgf cV.kp cV.b .nil pass0 (pa_cons (pv 0) (pa_cons (pv 3) pa_nil)))))) pss_nil)
      (pss_one (ps_ret (pe_op op_sub (pe_call GV hr rfl cV.mgf cV.kp cV.b .nil pass0 (pa_cons (pv 0) (pa_cons (pv 1) pa_nil))) (pe_call GV hr rfl cV.mgf cV.kp cV.b .nil pass0 (pa_cons (pv 0) (pa_cons (pv 3) pa_nil)))))), ?_⟩
    refine PuT.ifs (c := ts = "+") (fun Qt q => ⟨_, rfl, rfl, _, rfl, by rw [dec_str']; exact q⟩) (fun z => ?_) (fun z => ?_)
    · rw [if_pos z] at k
      exact ⟨_, rfl, _, rfl, a, own, u, x, rfl, ha, hu, ox, ol, _, rfl, _, rfl, a, own, v, y, rfl, ha, hv, oy, ol, _, _, rfl, rfl, k⟩
    · rw [if_neg z] at k
      exact ⟨_, rfl, _, rfl, a, own, u, x, rfl, ha, hu, ox, ol, _, rfl, _, rfl, a, own, v, y, rfl, ha, hv, oy, ol, _, _, rfl, rfl, k⟩
theorem scNB : FnScope ["line", "number", "own"] ["line", "number", "own"] (defScope s_number_behind) := ⟨rfl, rfl, rfl, by decide +kernel, rfl, by decide +kernel, by decide +kernel⟩
theorem ok_nb {f fV : Addr} {fd fdV : FuncData} (F : Fun K "number_behind" "number_behind" s_number_behind f fd) (GV : FnOk P w K mg base CX0 2 fV fdV ["own", "one", "test", "other"] (spSo K)) (cV : Cal K mg "is_so" fV fdV ["own", "one", "test", "other"]) : FnOk P w K mg base CX0 3 f fd ["line", "number", "own"] (spNB K 0 0) := by
  refine F.ok scNB (fun vs H Q E h => ?_) (fun cdv A outer s H vs Q E hr h => ?_)
  · obtain ⟨a, own, u, c, l, rfl, _⟩ := h
    rfl
  · obtain ⟨a, own, u, c, l, rfl, ha, hL, ⟨m, n, ok⟩, ol, k⟩ := h
    obtain ⟨lr, us, rfl, elr, _⟩ := id hL
    refine ⟨_, pss_cons (ps_if (PW.pt (pw_and (pt_cmpR op_eq (pe_ix ix_tup (pv 0) pe_int (fun _ _ => rfl)) pe_str (nomark _)) (pw_and1 (pt_val (pe_call GV hr rfl cV.mgf cV.kp cV.b .nil pass0 (pa_cons (pv 2) (pa_cons (pe_ix ix_tup (pv 0) pe_int (fun _ _ => rfl)) (pa_cons (pe_ix ix_tup (pv 0) pe_int (fun _ _ => rfl)) (pa_cons (pe_ix ix_tup (pv 0) pe_int (fun _ _ => rfl)) pa_nil))))))))) (pss_one (ps_ret (pe_op op_add (pe_op op_add (pv 1) pe_int) (pe_ix ix_tup (pv 0) pe_int (fun _ _ => rfl))))) pss_nil)
      (pss_one (ps_ret (pe_op op_add (pv 1) pe_int))), ?_⟩
    by_cases hs : c.line.1 = "skip"
    · obtain ⟨x, ts, y, cn, rfl⟩ := is_skip hs
      obtain ⟨r', p1, p2, e', er, h1, h2⟩ := line_skip hL
      cases e'
      obtain ⟨o1, o2, o3, o4⟩ : x.ok ∧ (ts = "==" ∨ ts = "<") ∧ y.ok ∧ cn < 9 := ok
      refine PuT.ifs (c := tstB own x ts y = true) ((PuT.and (a := true) (b := tstB own x ts y) (fun Qt q => ⟨_, rfl, lr, _, _, .str "skip", rfl, rfl, SqT.of er, rfl, rfl, _, rfl, by rw [dec_str', decide_eq_true rfl]; exact q⟩)
        (fun _ Qt q => ⟨_, rfl, _, rfl, lr, _, _, p1, rfl, rfl, SqT.of er, rfl, _, rfl, lr, _, _, .str ts, rfl, rfl, SqT.of er, rfl, _, rfl, lr, _, _, p2, rfl, rfl, SqT.of er, rfl, a, own, p1, p2, x, y, ts, rfl, ha, h1, o1, h2, o3, ol, _, rfl, q⟩)).iff (by simp)) (fun z => ?_) (fun z => ?_)
      · refine ⟨_, rfl, _, _, rfl, rfl, _, rfl, lr, _, _, .int (cn : Int), rfl, rfl, SqT.of er, rfl, _, _, rfl, rfl, ?_⟩
        have k : Q (vN (if tstB own x ts y = true then l + 1 + cn else l + 1)) H := k
        rw [if_pos z] at k
        exact k
      · refine ⟨_, rfl, _, _, rfl, rfl, ?_⟩
        have k : Q (vN (if tstB own x ts y = true then l + 1 + cn else l + 1)) H := k
        rw [if_neg z] at k
        exact k
    · have e : lineB l own c = l + 1 := by
        cases c with
        | skip a b d e => exact absurd rfl hs
        | _ => rfl
      rw [e] at k
      refine PuT.ifs (c := False) ((PuT.and (a := false) (b := false) (fun Qt q => ⟨_, rfl, lr, _, _, .str c.line.1, rfl, rfl, SqT.of elr, atI_nat (j := 0) rfl, rfl, _, rfl, by rw [dec_str', decide_eq_false hs]; exact q⟩) (fun z => (by cases z))).iff (by simp)) (fun z => z.elim) (fun _ => ⟨_, rfl, _, _, rfl, rfl, k⟩)
theorem scOB : FnScope ["line", "own", "values"] ["line", "own", "values"] (defScope s_own_behind) := ⟨rfl, rfl, rfl, by decide +kernel, rfl, by decide +kernel, by decide +kernel⟩
theorem ok_ob {f fP fV : Addr} {fd fdP fdV : FuncData} (F : Fun K "own_behind" "own_behind" s_own_behind f fd) (GP : FnOk P w K mg base CX0 1 fP fdP ["parts", "place", "part"] (spPut K)) (cP : Cal K mg "put" fP fdP ["parts", "place", "part"])
    (GV : FnOk P w K mg base CX0 2 fV fdV ["own", "one", "sign", "other"] (spReck K)) (cV : Cal K mg "reckoned" fV fdV ["own", "one", "sign", "other"]) : FnOk P w K mg base CX0 3 f fd ["line", "own", "values"] (spOB K) := by
  refine F.ok scOB (fun vs H Q E h => ?_) (fun cdv A outer s H vs Q E hr h => ?_)
  · obtain ⟨a, b, own, va, u, c, rfl, _⟩ := h
    rfl
  · obtain ⟨a, b, own, va, u, c, rfl, ha, hb, hL, ⟨m, ok⟩, ol, k⟩ := h
    obtain ⟨lr, us, rfl, elr, _⟩ := id hL
    have hr1 : Room 1 _ := hr.mono (by decide)
    refine ⟨_, pss_cons (ps_if (pt_cmpR op_eq (pe_ix ix_tup (pv 0) pe_int (fun _ _ => rfl)) pe_str (nomark _)) (pss_one (ps_ret (pe_call GP hr1 rfl cP.mgf cP.kp cP.b .nil pass0 (pa_cons (pv 1) (pa_cons (pe_ix ix_tup (pv 0) pe_int (fun _ _ => rfl)) (pa_cons (pe_ix ix_tup (pv 2) (pe_ix ix_tup (pv 0) pe_int (fun _ _ => rfl)) (fun _ _ => rfl)) pa_nil)))))) pss_nil)
      (pss_cons (ps_if (pt_cmpR op_eq (pe_ix ix_tup (pv 0) pe_int (fun _ _ => rfl)) pe_str (nomark _)) (pss_one (ps_ret (pe_call GP hr1 rfl cP.mgf cP.kp cP.b .nil pass0 (pa_cons (pv 1) (pa_cons (pe_ix ix_tup (pv 0) pe_int (fun _ _ => rfl)) (pa_cons (pe_call GV hr rfl cV.mgf cV.kp cV.b .nil pass0 (pa_cons (pv 1) (pa_cons (pe_ix ix_tup (pv 0) pe_int (fun _ _ => rfl)) (pa_cons (pe_ix ix_tup (pv 0) pe_int (fun _ _ => rfl)) (pa_cons (pe_ix ix_tup (pv 0) pe_int (fun _ _ => rfl)) pa_nil))))) pa_nil)))))) pss_nil)
      (pss_one (ps_ret (pv 1)))), ?_⟩
    refine PuT.ifs (c := c.line.1 = "read") (fun Qt q => ⟨_, rfl, lr, _, _, .str c.line.1, rfl, rfl, SqT.of elr, atI_nat (j := 0) rfl, rfl, _, rfl, by rw [dec_str']; exact q⟩) (fun z => ?_) (fun z1 => ?_)
    · obtain ⟨o, n, rfl⟩ := is_read z
      obtain ⟨r', e', er⟩ := line_read hL
      cases e'
      obtain ⟨o1, o2⟩ : o < 3 ∧ n < va.length := ok
      refine ⟨_, rfl, _, rfl, lr, _, _, .int (o : Int), rfl, rfl, SqT.of er, rfl, _, rfl, _, rfl, lr, _, _, .int (n : Int), rfl, rfl, SqT.of er, rfl, b, _, _, .int (va.getD n 0), rfl, rfl, hb, map_at o2, a, _, o, .int (va.getD n 0), rfl, ha, by rw [List.length_map]; omega, by rw [List.length_map]; omega, fun p H' s' h' => k p H' s' ?_⟩
      rw [← map_set'] at h'
      exact h'
    refine PuT.ifs (c := c.line.1 = "set") (fun Qt q => ⟨_, rfl, lr, _, _, .str c.line.1, rfl, rfl, SqT.of elr, atI_nat (j := 0) rfl, rfl, _, rfl, by rw [dec_str']; exact q⟩) (fun z => ?_) (fun z2 => ?_)
    · obtain ⟨o, x, sg, y, rfl⟩ := is_set z
      obtain ⟨r', p1, p2, e', er, h1, h2⟩ := line_set hL
      cases e'
      obtain ⟨o1, o2, o3, o4⟩ : o < 3 ∧ x.ok ∧ (sg = "+" ∨ sg = "-") ∧ y.ok := ok
      refine ⟨_, rfl, _, rfl, lr, _, _, .int (o : Int), rfl, rfl, SqT.of er, rfl, _, rfl, _, rfl, lr, _, _, p1, rfl, rfl, SqT.of er, rfl, _, rfl, lr, _, _, .str sg, rfl, rfl, SqT.of er, rfl, _, rfl, lr, _, _, p2, rfl, rfl, SqT.of er, rfl, a, own, p1, p2, x, y, sg, rfl, ha, h1, o2, h2, o4, ol,
        a, _, o, _, rfl, ha, by rw [List.length_map]; omega, by rw [List.length_map]; omega, fun p H' s' h' => k p H' s' ?_⟩
      rw [← map_set'] at h'
      exact h'
    · have e : ownB own va c = own := by
        cases c with
        | read a b => exact absurd rfl z1
        | set a b d e => exact absurd rfl z2
        | _ => rfl
      rw [e] at k
      exact ⟨_, rfl, k a H (Same.refl _) ha⟩
theorem scVB : FnScope ["line", "own", "values"] ["line", "own", "values"] (defScope s_values_behind) := ⟨rfl, rfl, rfl, by decide +kernel, rfl, by decide +kernel, by decide +kernel⟩
theorem ok_vb {f fP fV : Addr} {fd fdP fdV : FuncData} (F : Fun K "values_behind" "values_behind" s_values_behind f fd) (GP : FnOk P w K mg base CX0 1 fP fdP ["parts", "place", "part"] (spPut K)) (cP : Cal K mg "put" fP fdP ["parts", "place", "part"])
    (GV : FnOk P w K mg base CX0 1 fV fdV ["own", "value"] (spVO K)) (cV : Cal K mg "value_of" fV fdV ["own", "value"]) : FnOk P w K mg base CX0 2 f fd ["line", "own", "values"] (spVB K) := by
  refine F.ok scVB (fun vs H Q E h => ?_) (fun cdv A outer s H vs Q E hr h => ?_)
  · obtain ⟨a, b, own, va, u, c, rfl, _⟩ := h
    rfl
  · obtain ⟨a, b, own, va, u, c, rfl, ha, hb, hL, ⟨m, ok⟩, ol, v4, k⟩ := h
    obtain ⟨lr, us, rfl, elr, _⟩ := id hL
    refine ⟨_, pss_cons (ps_if (pt_cmpR op_eq (pe_ix ix_tup (pv 0) pe_int (fun _ _ => rfl)) pe_str (nomark _)) (pss_one (ps_ret (pe_call GP hr rfl cP.mgf cP.kp cP.b .nil pass0 (pa_cons (pv 2) (pa_cons (pe_ix ix_tup (pv 0) pe_int (fun _ _ => rfl)) (pa_cons (pe_call GV hr rfl cV.mgf cV.kp cV.b .nil pass0 (pa_cons (pv 1) (pa_cons (pe_ix ix_tup (pv 0) pe_int (fun _ _ => rfl)) pa_nil))) pa_nil)))))) pss_nil)
      (pss_one (ps_ret (pv 2))), ?_⟩
    refine PuT.ifs (c := c.line.1 = "write") (fun Qt q => ⟨_, rfl, lr, _, _, .str c.line.1, rfl, rfl, SqT.of elr, atI_nat (j := 0) rfl, rfl, _, rfl, by rw [dec_str']; exact q⟩) (fun z => ?_) (fun z1 => ?_)
    · obtain ⟨n, x, rfl⟩ := is_write z
      obtain ⟨r', p1, e', er, h1⟩ := line_write hL
      cases e'
      obtain ⟨o1, o2⟩ : n < va.length ∧ x.ok := ok
      refine ⟨_, rfl, _, rfl, lr, _, _, .int (n : Int), rfl, rfl, SqT.of er, rfl, _, rfl, _, rfl, lr, _, _, p1, rfl, rfl, SqT.of er, rfl, a, own, p1, x, rfl, ha, h1, o2, ol, b, _, n, _, rfl, hb, by rw [List.length_map]; omega, by rw [List.length_map]; omega, fun p H' s' h' => k p H' s' ?_⟩
      rw [← map_set'] at h'
      exact h'
    · have e : vaB own va c = va := by
        cases c with
        | write a b => exact absurd rfl z1
        | _ => rfl
      rw [e] at k
      exact ⟨_, rfl, k b H (Same.refl _) hb⟩
theorem scHB : FnScope ["line", "thread", "holders"] ["line", "thread", "holders"] (defScope s_holders_behind) := ⟨rfl, rfl, rfl, by decide +kernel, rfl, by decide +kernel, by decide +kernel⟩
theorem ok_hb {f fP : Addr} {fd fdP : FuncData} (F : Fun K "holders_behind" "holders_behind" s_holders_behind f fd) (GP : FnOk P w K mg base CX0 1 fP fdP ["parts", "place", "part"] (spPut K)) (cP : Cal K mg "put" fP fdP ["parts", "place", "part"]) : FnOk P w K mg base CX0 2 f fd ["line", "thread", "holders"] (spHB K) := by
  refine F.ok scHB (fun vs H Q E h => ?_) (fun cdv A outer s H vs Q E hr h => ?_)
  · obtain ⟨b, ho, u, c, t, rfl, _⟩ := h
    rfl
  · obtain ⟨b, ho, u, c, t, rfl, hb, hL, ⟨m, n, ok⟩, h3, k⟩ := h
    obtain ⟨lr, us, rfl, elr, _⟩ := id hL
    refine ⟨_, pss_cons (ps_if (pt_cmpR op_eq (pe_ix ix_tup (pv 0) pe_int (fun _ _ => rfl)) pe_str (nomark _)) (pss_one (ps_ret (pe_call GP hr rfl cP.mgf cP.kp cP.b .nil pass0 (pa_cons (pv 2) (pa_cons (pe_ix ix_tup (pv 0) pe_int (fun _ _ => rfl)) (pa_cons (pv 1) pa_nil)))))) pss_nil)
      (pss_cons (ps_if (pt_cmpR op_eq (pe_ix ix_tup (pv 0) pe_int (fun _ _ => rfl)) pe_str (nomark _)) (pss_one (ps_ret (pe_call GP hr rfl cP.mgf cP.kp cP.b .nil pass0 (pa_cons (pv 2) (pa_cons (pe_ix ix_tup (pv 0) pe_int (fun _ _ => rfl)) (pa_cons pe_non pa_nil)))))) pss_nil)
      (pss_one (ps_ret (pv 2)))), ?_⟩
    refine PuT.ifs (c := c.line.1 = "take") (fun Qt q => ⟨_, rfl, lr, _, _, .str c.line.1, rfl, rfl, SqT.of elr, atI_nat (j := 0) rfl, rfl, _, rfl, by rw [dec_str']; exact q⟩) (fun z => ?_) (fun z1 => ?_)
    · obtain ⟨x, rfl⟩ := is_take z
      obtain ⟨r', e', er⟩ := line1 hL
      cases e'
      have ok : x < 3 := ok
      refine ⟨_, rfl, _, rfl, lr, _, _, .int (x : Int), rfl, rfl, SqT.of er, rfl, _, rfl, b, _, x, vH (some t), rfl, hb, by rw [List.length_map]; omega, by rw [List.length_map]; omega, fun p H' s' h' => k p H' s' ?_⟩
      rw [← map_set'] at h'
      exact h'
    refine PuT.ifs (c := c.line.1 = "give") (fun Qt q => ⟨_, rfl, lr, _, _, .str c.line.1, rfl, rfl, SqT.of elr, atI_nat (j := 0) rfl, rfl, _, rfl, by rw [dec_str']; exact q⟩) (fun z => ?_) (fun z2 => ?_)
    · obtain ⟨x, rfl⟩ := is_give z
      obtain ⟨r', e', er⟩ := line1 hL
      cases e'
      have ok : x < 3 := ok
      refine ⟨_, rfl, _, rfl, lr, _, _, .int (x : Int), rfl, rfl, SqT.of er, rfl, b, _, x, vH none, rfl, hb, by rw [List.length_map]; omega, by rw [List.length_map]; omega, fun p H' s' h' => k p H' s' ?_⟩
      rw [← map_set'] at h'
      exact h'
    · have e : hoB t ho c = ho := by
        cases c with
        | take a => exact absurd rfl z1
        | give a => exact absurd rfl z2
        | _ => rfl
      rw [e] at k
      exact ⟨_, rfl, k b H (Same.refl _) hb⟩
theorem scAB : FnScope ["line", "awake"] ["line", "awake"] (defScope s_awake_behind) := ⟨rfl, rfl, rfl, by decide +kernel, rfl, by decide +kernel, by decide +kernel⟩
theorem ok_ab {f fP : Addr} {fd fdP : FuncData} (F : Fun K "awake_behind" "awake_behind" s_awake_behind f fd) (GP : FnOk P w K mg base CX0 1 fP fdP ["parts", "place", "part"] (spPut K)) (cP : Cal K mg "put" fP fdP ["parts", "place", "part"]) : FnOk P w K mg base CX0 2 f fd ["line", "awake"] (spAB K) := by
  refine F.ok scAB (fun vs H Q E h => ?_) (fun cdv A outer s H vs Q E hr h => ?_)
  · obtain ⟨b, aw, u, c, rfl, _⟩ := h
    rfl
  · obtain ⟨b, aw, u, c, rfl, hb, hL, ⟨n, ok⟩, h3, k⟩ := h
    obtain ⟨lr, us, rfl, elr, _⟩ := id hL
    refine ⟨_, pss_cons (ps_if (pt_cmpR op_eq (pe_ix ix_tup (pv 0) pe_int (fun _ _ => rfl)) pe_str (nomark _)) (pss_one (ps_ret (pe_call GP hr rfl cP.mgf cP.kp cP.b .nil pass0 (pa_cons (pv 1) (pa_cons (pe_ix ix_tup (pv 0) pe_int (fun _ _ => rfl)) (pa_cons pe_bl pa_nil)))))) pss_nil)
      (pss_one (ps_ret (pv 1))), ?_⟩
    refine PuT.ifs (c := c.line.1 = "fork") (fun Qt q => ⟨_, rfl, lr, _, _, .str c.line.1, rfl, rfl, SqT.of elr, atI_nat (j := 0) rfl, rfl, _, rfl, by rw [dec_str']; exact q⟩) (fun z => ?_) (fun z1 => ?_)
    · obtain ⟨x, rfl⟩ := is_fork z
      obtain ⟨r', e', er⟩ := line1 hL
      cases e'
      have ok : x < aw.length := ok
      refine ⟨_, rfl, _, rfl, lr, _, _, .int (x : Int), rfl, rfl, SqT.of er, rfl, b, _, x, .bl true, rfl, hb, by rw [List.length_map]; omega, by rw [List.length_map]; omega, fun p H' s' h' => k p H' s' ?_⟩
      rw [← map_set'] at h'
      exact h'
    · have e : awB aw c = aw := by
        cases c with
        | fork a => exact absurd rfl z1
        | _ => rfl
      rw [e] at k
      exact ⟨_, rfl, k b H (Same.refl _) hb⟩
end
end K
namespace K
open PySem L2 RC
def spMoved (K : PySem.W.Frag) (CP : Addr) : Sp := fun vs H Q _ => ∃ (p : Addr) (fs : List Int) (ds : List (List Cmd)) (v : V) (s : Ste) (t : Nat) (c : Cmd), vs = [.ref p, v, .int (t : Int)] ∧ PG CP H p fs ds ∧ StAt K H v s ∧ Wf ds.length fs.length s ∧ t < ds.length ∧ mayB ds s t = true ∧ cmdAt ds s t = some c ∧ ∀ v' H', Same H H' → StAt K H' v' (stepS s t c) → Q v' H'
theorem paired_set {α β : Type} {F : α → β → Prop} {a : α} {b : β} (h : F a b) : ∀ {l : List α} {m : List β} (i : Nat), Paired F l m → Paired F (l.set i a) (m.set i b)
  | _, _, _, .nil => .nil
  | _, _, 0, .cons _ q => .cons h q
  | _, _, i + 1, .cons p q => .cons p (paired_set h i q)
section
variable {P : Program} {w : World} {K : PySem.W.Frag} {mg : Str → Option Value} {base : Heap}
theorem scMoved : FnScope ["program", "state", "thread", "line", "lines", "owns", "values", "holders", "awake", "own"] ["program", "state", "thread"] (defScope s_moved) := ⟨rfl, rfl, rfl, by decide +kernel, rfl, by decide +kernel, by decide +kernel⟩
theorem ok_moved {f CP fM fN fP fB fO fV fH fA : Addr} {fd fdM fdN fdP fdB fdO fdV fdH fdA : FuncData} (F : Fun K "moved" "moved" s_moved f fd)
    (GM : FnOk P w K mg base CX0 4 fM fdM ["program", "state", "thread"] (spMay K CP)) (cM : Cal K mg "may_move" fM fdM ["program", "state", "thread"])
    (GN : FnOk P w K mg base CX0 2 fN fdN ["program", "state", "thread"] (spNext K CP)) (cN : Cal K mg "next_line" fN fdN ["program", "state", "thread"])
    (GP : FnOk P w K mg base CX0 1 fP fdP ["parts", "place", "part"] (spPut K)) (cP : Cal K mg "put" fP fdP ["parts", "place", "part"])
    (GB : FnOk P w K mg base CX0 3 fB fdB ["line", "number", "own"] (spNB K 0 0)) (cB : Cal K mg "number_behind" fB fdB ["line", "number", "own"])
    (GO : FnOk P w K mg base CX0 3 fO fdO ["line", "own", "values"] (spOB K)) (cO : Cal K mg "own_behind" fO fdO ["line", "own", "values"])
    (GV : FnOk P w K mg base CX0 2 fV fdV ["line", "own", "values"] (spVB K)) (cV : Cal K mg "values_behind" fV fdV ["line", "own", "values"])
    (GH : FnOk P w K mg base CX0 2 fH fdH ["line", "thread", "holders"] (spHB K)) (cH : Cal K mg "holders_behind" fH fdH ["line", "thread", "holders"])
    (GA : FnOk P w K mg base CX0 2 fA fdA ["line", "awake"] (spAB K)) (cA : Cal K mg "awake_behind" fA fdA ["line", "awake"]) :
    FnOk P w K mg base CX0 5 f fd ["program", "state", "thread"] (spMoved K CP) := by
  refine F.ok scMoved (fun vs H Q E h => ?_) (fun cdv A outer s H vs Q E hr h => ?_)
  · obtain ⟨p, fs, ds, v, s, t, c, rfl, _⟩ := h
    rfl
  · obtain ⟨p, fs, ds, v, st, t, cm, rfl, hG, hS, W, ht, hmay, hcmd, k⟩ := h
    have nd := scMoved.nd
    have hr1 : Room 1 _ := hr.mono (by decide)
    have hr2 : Room 2 _ := hr.mono (by decide)
    have hr3 : Room 3 _ := hr.mono (by decide)
    refine ⟨_, pss_cons (ps_if (pt_not (pt_val (pe_call GM hr rfl cM.mgf cM.kp cM.b .nil pass0 (pa_cons (pv 0) (pa_cons (pv 1) (pa_cons (pv 2) pa_nil)))))) pss_never pss_nil)
      (pss_cons (ps_set (i := 3) nd rfl (Or.inl rfl) (pe_call GN hr2 rfl cN.mgf cN.kp cN.b .nil pass0 (pa_cons (pv 0) (pa_cons (pv 1) (pa_cons (pv 2) pa_nil)))))
      (pss_cons (ps_asg (pv 1) (pg_tup rfl (pgs_cons (pg_name (i := 4) nd rfl (Or.inl rfl)) (pgs_cons (pg_name (i := 5) nd rfl (Or.inl rfl)) (pgs_cons (pg_name (i := 6) nd rfl (Or.inl rfl)) (pgs_cons (pg_name (i := 7) nd rfl (Or.inl rfl)) (pgs_cons (pg_name (i := 8) nd rfl (Or.inl rfl)) pgs_nil)))))))
      (pss_cons (ps_set (i := 9) nd rfl (Or.inl rfl) (pe_ix ix_tup (pv 5) (pv 2) (fun _ _ => rfl)))
      (pss_one (ps_ret (pe_tup (pa_cons (pe_call GP hr1 rfl cP.mgf cP.kp cP.b .nil pass0 (pa_cons (pv 4) (pa_cons (pv 2) (pa_cons (pe_call GB hr3 rfl cB.mgf cB.kp cB.b .nil pass0 (pa_cons (pv 3) (pa_cons (pe_ix ix_tup (pv 4) (pv 2) (fun _ _ => rfl)) (pa_cons (pv 9) pa_nil)))) pa_nil))))
        (pa_cons (pe_call GP hr1 rfl cP.mgf cP.kp cP.b .nil pass0 (pa_cons (pv 5) (pa_cons (pv 2) (pa_cons (pe_call GO hr3 rfl cO.mgf cO.kp cO.b .nil pass0 (pa_cons (pv 3) (pa_cons (pv 9) (pa_cons (pv 6) pa_nil)))) pa_nil))))
        (pa_cons (pe_call GV hr2 rfl cV.mgf cV.kp cV.b .nil pass0 (pa_cons (pv 3) (pa_cons (pv 9) (pa_cons (pv 6) pa_nil))))
        (pa_cons (pe_call GH hr2 rfl cH.mgf cH.kp cH.b .nil pass0 (pa_cons (pv 3) (pa_cons (pv 2) (pa_cons (pv 7) pa_nil))))
        (pa_cons (pe_call GA hr2 rfl cA.mgf cA.kp cA.b .nil pass0 (pa_cons (pv 3) (pa_cons (pv 8) pa_nil))) pa_nil))))))))))), ?_⟩
    have mi : mayI ds st (t : Int) = true := by
      unfold mayI
      rw [if_pos ⟨by omega, by omega⟩]
      exact hmay
    refine PuS.ifs (c := False) (PuS.not (a := true) (fun Qt q => ⟨_, rfl, _, rfl, _, rfl, p, fs, ds, v, st, (t : Int), rfl, hG, hS, W, fun H' s' => ⟨true, by rw [mi], q H' s'⟩⟩)) (fun _ _ z => z.elim) (fun H1 s1 _ => ?_)
    have hS1 := hS.same s1
    have hG1 := hG.same s1
    refine ⟨_, rfl, _, rfl, _, rfl, p, fs, ds, v, st, t, rfl, hG1, hS1, W, ht, fun u hu => ?_⟩
    rw [hcmd] at hu
    have hu : LineAt H1 u cm.line := hu
    dsimp only [gName]
    have ok := cmdAt_ok hG.ok hcmd
    obtain ⟨r, a, b, c, d, e, os, rfl, h0, h1, h2, h3, h4, h5, h6⟩ := hS1
    refine ⟨_, rfl, r, _, rfl, h0, rfl, _, _, rfl, _, _, rfl, _, _, rfl, _, _, rfl, _, _, rfl, rfl, ?_⟩
    dsimp only [gName]
    have how : st.ow[t]? = some (st.ow.getD t []) := by
      have : t < st.ow.length := by rw [W.ow]; exact ht
      rw [List.getD_eq_getElem?_getD]
      simp [this]
    obtain ⟨ov, eov, q, rfl, hq⟩ := RC.Paired.get' h3 how
    have ol : (st.ow.getD t []).length = 3 := W.o3 _ (List.mem_of_getElem? how)
    have lo : os.length = ds.length := by rw [RC.Paired.len h3, W.ow]
    refine ⟨_, rfl, _, rfl, b, _, _, .ref q, rfl, rfl, h2, atI_nat eov, ?_⟩
    dsimp only [gName]
    generalize hown : st.ow.getD t [] = own at *
    refine ⟨_, rfl, _, rfl, _, rfl, _, rfl, _, rfl, a, _, _, vN (st.li.getD t 0), rfl, rfl, h1, map_at (by rw [W.li]; exact ht), _, rfl, q, own, u, cm, st.li.getD t 0, rfl, hq, hu, ⟨_, _, ok⟩, ol, a, _, t, _, rfl, h1, by rw [List.length_map, W.li]; exact ht, by rw [List.length_map, W.li]; have := hG.c3; omega, fun a2 H2 s2 ha2 => ?_⟩
    rw [← map_set'] at ha2
    have hu2 := LineAt.ts (TSame.of s2) hu
    refine ⟨_, rfl, _, rfl, _, rfl, _, rfl, _, rfl, q, c, own, st.va, u, cm, rfl, Same.sqT s2 hq, Same.sqT s2 h4, hu2, ⟨_, by rw [W.va]; exact ok⟩, ol, fun q3 H3 s3 hq3 => ?_⟩
    have s23 := s2.trans s3
    refine ⟨b, _, t, _, rfl, Same.sqT s23 h2, by rw [lo]; exact ht, by rw [lo]; have := hG.c3; omega, fun b4 H4 s4 hb4 => ?_⟩
    have s24 := s23.trans s4
    refine ⟨_, rfl, _, rfl, _, rfl, q, c, own, st.va, u, cm, rfl, Same.sqT s24 hq, Same.sqT s24 h4, LineAt.ts (TSame.of s24) hu, ⟨_, by rw [W.va]; exact ok⟩, ol, by rw [W.va]; exact hG.f4, fun c5 H5 s5 hc5 => ?_⟩
    have s25 := s24.trans s5
    refine ⟨_, rfl, _, rfl, _, rfl, d, st.ho, u, cm, t, rfl, Same.sqT s25 h5, LineAt.ts (TSame.of s25) hu, ⟨_, _, ok⟩, W.ho, fun d6 H6 s6 hd6 => ?_⟩
    have s26 := s25.trans s6
    refine ⟨_, rfl, _, rfl, e, st.aw, u, cm, rfl, Same.sqT s26 h6, LineAt.ts (TSame.of s26) hu, ⟨_, by rw [W.aw]; exact ok⟩, by rw [W.aw]; exact hG.c3, fun e7 H7 s7 he7 => ⟨(by show 5 ≤ sizeLine; decide), fun r8 n8 => ?_⟩⟩
    have s8 : Same H7 (upd H7 r8 (.tup [.ref a2, .ref b4, .ref c5, .ref d6, .ref e7])) := same_new n8
    have e8 : upd H7 r8 (.tup [.ref a2, .ref b4, .ref c5, .ref d6, .ref e7]) r8 = some (.tup [.ref a2, .ref b4, .ref c5, .ref d6, .ref e7]) := upd_same
    generalize upd H7 r8 (.tup [.ref a2, .ref b4, .ref c5, .ref d6, .ref e7]) = H8 at s8 e8
    have s78 := s7.trans s8
    have s68 := s6.trans s78
    have s58 := s5.trans s68
    have s48 := s4.trans s58
    have s38 := s3.trans s48
    subst hown
    refine k (.ref r8) H8 (s1.trans (s2.trans s38)) ⟨r8, a2, b4, c5, d6, e7, _, rfl, SqT.of e8, Same.sqT s38 ha2, Same.sqT s58 hb4, ?_, Same.sqT s68 hc5, Same.sqT s78 hd6, Same.sqT s8 he7⟩
    have p3 : Paired (SqI K H8) os st.ow := RC.Paired.imp (fun _ _ z => z.ls (LSame.of (s2.trans s38))) h3
    exact paired_set ⟨q3, rfl, Same.sqT s48 hq3⟩ t p3
end
end K
namespace RC
open PySem L2
def hD : Option Nat → PyData
  | none => .none
  | some t => .int (t : Int)
def ownD (o : List Int) : PyData := .tuple (o.map PyData.int)
def stD (s : Ste) : PyData := .tuple [.tuple (s.li.map fun (n : Nat) => PyData.int (n : Int)), .tuple (s.ow.map ownD), .tuple (s.va.map PyData.int), .tuple (s.ho.map hD), .tuple (s.aw.map PyData.bool)]
theorem dat_map {α : Type} {K : PySem.W.Frag} {H : Hp} {f : α → V} {g : α → PyData} (h : ∀ a, DatA K H (f a) (g a)) : ∀ l : List α, DatAs K H (l.map f) (l.map g)
  | [] => .nil
  | a :: r => .cons (h a) (dat_map h r)
theorem dat_own {K : PySem.W.Frag} {H : Hp} : ∀ {os : List V} {ow : List (List Int)}, Paired (SqI K H) os ow → DatAs K H os (ow.map ownD)
  | _, _, .nil => .nil
  | _, _, .cons ⟨q, e, h⟩ r => by
    subst e
    exact .cons (.tup h (datas_ints _)) (dat_own r)
theorem StAt.dat {K : PySem.W.Frag} {H : Hp} {v : V} {s : Ste} (h : StAt K H v s) : DatA K H v (stD s) := by
  obtain ⟨r, a, b, c, d, e, os, rfl, h0, h1, h2, h3, h4, h5, h6⟩ := h
  exact .tup h0 (.cons (.tup h1 (dat_map (fun n => .int _) _)) (.cons (.tup h2 (dat_own h3)) (.cons (.tup h4 (datas_ints _)) (.cons (.tup h5 (dat_map (fun o => by cases o with | none => exact .non | some t => exact .int _) _)) (.cons (.tup h6 (dat_map (fun b => .bl b) _)) .nil)))))
theorem lay_map {α : Type} {g : α → PyData} (h : ∀ a, PyData.canLay0 (g a) = true) : ∀ l : List α, PyData.canLayAll0 (l.map g) = true
  | [] => by simp [PyData.canLayAll0]
  | a :: r => by rw [List.map_cons, PyData.canLayAll0, h a, lay_map h r]; rfl
theorem dep_map {α : Type} {g : α → PyData} {n : Nat} (h : ∀ a, (g a).depth ≤ n) : ∀ l : List α, PyData.depthAll (l.map g) ≤ n
  | [] => by simp [PyData.depthAll]
  | a :: r => by
    rw [List.map_cons, PyData.depthAll]
    have := h a
    have := dep_map h r
    omega
theorem shaped_st (s : Ste) : PySem.SeqAt.shaped (stD s) = true := by
  have l1 := lay_map (g := fun (n : Nat) => PyData.int (n : Int)) (fun n => by simp [PyData.canLay0]) s.li
  have l2 := lay_map (g := ownD) (fun o => by unfold ownD; rw [PyData.canLay0, lay_ints]) s.ow
  have l3 := lay_ints s.va
  have l4 := lay_map (g := hD) (fun o => by cases o <;> simp [hD, PyData.canLay0]) s.ho
  have l5 := lay_map (g := PyData.bool) (fun b => by simp [PyData.canLay0]) s.aw
  have d1 := dep_map (g := fun (n : Nat) => PyData.int (n : Int)) (n := 0) (fun n => by simp [PyData.depth]) s.li
  have d2 := dep_map (g := ownD) (n := 1) (fun o => by unfold ownD; rw [PyData.depth, depth_ints]; omega) s.ow
  have d3 := depth_ints s.va
  have d4 := dep_map (g := hD) (n := 0) (fun o => by cases o <;> simp [hD, PyData.depth]) s.ho
  have d5 := dep_map (g := PyData.bool) (n := 0) (fun b => by simp [PyData.depth]) s.aw
  refine shaped_of ?_ ?_
  · unfold stD
    simp only [PyData.canLay0, PyData.canLayAll0, l1, l2, l3, l4, l5]
    rfl
  · unfold stD
    simp only [PyData.depth, PyData.depthAll]
    omega
def deedC (t : Nat) : Cmd → Option Deed
  | .read _ n => some ((t : Int), "read", (n : Int))
  | .write n _ => some ((t : Int), "write", (n : Int))
  | .take x => some ((t : Int), "take", (x : Int))
  | .give x => some ((t : Int), "give", (x : Int))
  | .fork x => some ((t : Int), "fork", (x : Int))
  | .wait x => some ((t : Int), "wait", (x : Int))
  | _ => none
def DeedR (H : Hp) (u : V) (d : Deed) : Prop := ∃ r, u = .ref r ∧ H r = some (.tup [.int d.1, .str d.2.1, .int d.2.2])
def DeedO (H : Hp) (u : V) : Option Deed → Prop
  | none => u = .non
  | some d => DeedR H u d
theorem DeedR.ts {H H' : Hp} {u : V} {d : Deed} (s : TSame H H') (h : DeedR H u d) : DeedR H' u d := h.imp fun r p => ⟨p.1, s _ _ p.2⟩
inductive Rn (ds : List (List Cmd)) (fs : List Int) : List Nat → Ste → List Deed → Prop where
  | nil : Rn ds fs [] (beg ds.length fs) []
  | snoc {ts : List Nat} {s : Ste} {dd : List Deed} {t : Nat} {c : Cmd} : Rn ds fs ts s dd → t < ds.length → mayB ds s t = true → cmdAt ds s t = some c → Rn ds fs (ts ++ [t]) (stepS s t c) (dd ++ (deedC t c).toList)
theorem Rn.wf {ds : List (List Cmd)} {fs : List Int} {ts : List Nat} {s : Ste} {dd : List Deed} (h : Rn ds fs ts s dd) : Wf ds.length fs.length s := by
  induction h with
  | nil => exact wf_beg _ _
  | snoc _ ht _ _ ih => exact wf_step ih ht
theorem Rn.inj {ds : List (List Cmd)} {fs : List Int} {ts : List Nat} {s : Ste} {dd : List Deed} (h : Rn ds fs ts s dd) : ∀ {ts' : List Nat} {s' : Ste} {dd' : List Deed}, ts' = ts → Rn ds fs ts' s' dd' → s' = s ∧ dd' = dd := by
  induction h with
  | nil =>
    intro ts' s' dd' e h'
    cases h' with
    | nil => exact ⟨rfl, rfl⟩
    | snoc _ _ _ _ => simp at e
  | snoc h1 ht hm hc ih =>
    intro ts' s' dd' e h'
    cases h' with
    | nil => simp at e
    | snoc g1 gt gm gc =>
      obtain ⟨e1, e2⟩ := List.append_inj' e rfl
      have e2 : _ = _ := (List.cons.inj e2).1
      obtain ⟨q1, q2⟩ := ih e1 g1
      subst q1 q2 e2
      rw [hc] at gc
      cases gc
      exact ⟨rfl, rfl⟩
theorem Rn.at {ds : List (List Cmd)} {fs : List Int} {ts : List Nat} {s : Ste} {dd : List Deed} (h : Rn ds fs ts s dd) : ∀ i t, ts[i]? = some t → ∃ s1 d1 c, Rn ds fs (ts.take i) s1 d1 ∧ t < ds.length ∧ mayB ds s1 t = true ∧ cmdAt ds s1 t = some c := by
  induction h with
  | nil => intro i t e; simp at e
  | @snoc ts s dd t' c h1 ht hm hc ih =>
    intro i t e
    by_cases hi : i < ts.length
    · rw [List.getElem?_append_left hi] at e
      obtain ⟨s1, d1, c1, q, r⟩ := ih i t e
      exact ⟨s1, d1, c1, by rw [List.take_append_of_le_length (by omega)]; exact q, r⟩
    · have hi2 : i = ts.length := by
        have := (List.getElem?_eq_some_iff.mp e).1
        rw [List.length_append, List.length_singleton] at this
        omega
      subst hi2
      rw [List.getElem?_append_right (Nat.le_refl _), Nat.sub_self] at e
      have e : some t' = some t := e
      cases e
      exact ⟨s, dd, c, by rw [List.take_left']; exact h1; rfl, ht, hm, hc⟩
end RC
namespace K
open PySem L2 RC
def spDeedOf (K : PySem.W.Frag) (CP : Addr) : Sp := fun vs H Q _ => ∃ (p : Addr) (fs : List Int) (ds : List (List Cmd)) (v : V) (s : Ste) (t : Nat) (c : Cmd), vs = [.ref p, v, .int (t : Int)] ∧ PG CP H p fs ds ∧ StAt K H v s ∧ Wf ds.length fs.length s ∧ t < ds.length ∧ cmdAt ds s t = some c ∧ ∀ u H', Same H H' → DeedO H' u (deedC t c) → Q u H'
def spRun (K : PySem.W.Frag) (CP : Addr) : Sp := fun vs H Q _ => ∃ (p l : Addr) (fs : List Int) (ds : List (List Cmd)) (ts : List Nat) (s : Ste) (dd : List Deed), vs = [.ref p, .ref l] ∧ PG CP H p fs ds ∧ SqL K H l (ts.map vN) ∧ Rn ds fs ts s dd ∧ ts.length ≤ 100 ∧
  ∀ r v ld us H', Same H H' → H' r = some (.tup [v, .ref ld]) → StAt K H' v s → H ld = none → H' ld = some (.lst us) → Paired (DeedR H') us dd → Q (.ref r) H'
theorem deedC_none {t : Nat} {c : Cmd} (h : c.line.1 = "set" ∨ c.line.1 = "skip") : deedC t c = none := by
  rcases h with h | h
  · obtain ⟨o, a, sg, b, rfl⟩ := is_set h; rfl
  · obtain ⟨a, ts, b, k, rfl⟩ := is_skip h; rfl
theorem deed_parts {H : Hp} {u : V} {c : Cmd} {t : Nat} (h : LineAt H u c.line) (n1 : ¬ c.line.1 = "set") (n2 : ¬ c.line.1 = "skip") : ∃ (r : Addr) (us : List V) (x : Nat), u = .ref r ∧ H r = some (.tup (.str c.line.1 :: us)) ∧ (if c.line.1 = "read" then us[1]? else us[0]?) = some (.int (x : Int)) ∧ deedC t c = some ((t : Int), c.line.1, (x : Int)) := by
  cases c with
  | read o n =>
    obtain ⟨r, e, er⟩ := line_read h
    exact ⟨r, _, n, e, er, by rw [if_pos (show (Cmd.read o n).line.1 = "read" from rfl)]; rfl, rfl⟩
  | write n v =>
    obtain ⟨r, x, e, er, _⟩ := line_write h
    exact ⟨r, _, n, e, er, by rw [if_neg (by show ¬ (("write" : Str) = "read"); decide +kernel)]; rfl, rfl⟩
  | set o a sg b => exact absurd rfl n1
  | skip a ts b k => exact absurd rfl n2
  | take x =>
    obtain ⟨r, e, er⟩ := line1 h
    exact ⟨r, _, x, e, er, by rw [if_neg (by show ¬ (("take" : Str) = "read"); decide +kernel)]; rfl, rfl⟩
  | give x =>
    obtain ⟨r, e, er⟩ := line1 h
    exact ⟨r, _, x, e, er, by rw [if_neg (by show ¬ (("give" : Str) = "read"); decide +kernel)]; rfl, rfl⟩
  | fork x =>
    obtain ⟨r, e, er⟩ := line1 h
    exact ⟨r, _, x, e, er, by rw [if_neg (by show ¬ (("fork" : Str) = "read"); decide +kernel)]; rfl, rfl⟩
  | wait x =>
    obtain ⟨r, e, er⟩ := line1 h
    exact ⟨r, _, x, e, er, by rw [if_neg (by show ¬ (("wait" : Str) = "read"); decide +kernel)]; rfl, rfl⟩
section
variable {P : Program} {w : World} {K : PySem.W.Frag} {mg : Str → Option Value} {base : Heap}
theorem scDeedOf : FnScope ["program", "state", "thread", "line"] ["program", "state", "thread"] (defScope s_deed_of) := ⟨rfl, rfl, rfl, by decide +kernel, rfl, by decide +kernel, by decide +kernel⟩
theorem ok_deedof {f CP fN : Addr} {fd fdN : FuncData} (F : Fun K "deed_of" "deed_of" s_deed_of f fd)
    (GN : FnOk P w K mg base CX0 2 fN fdN ["program", "state", "thread"] (spNext K CP)) (cN : Cal K mg "next_line" fN fdN ["program", "state", "thread"]) : FnOk P w K mg base CX0 3 f fd ["program", "state", "thread"] (spDeedOf K CP) := by
  refine F.ok scDeedOf (fun vs H Q E h => ?_) (fun cdv A outer s H vs Q E hr h => ?_)
  · obtain ⟨p, fs, ds, v, s, t, c, rfl, _⟩ := h
    rfl
  · obtain ⟨p, fs, ds, v, st, t, cm, rfl, hG, hS, W, ht, hcmd, k⟩ := h
    have nd := scDeedOf.nd
    refine ⟨_, pss_cons (ps_set (i := 3) nd rfl (Or.inl rfl) (pe_call GN hr rfl cN.mgf cN.kp cN.b .nil pass0 (pa_cons (pv 0) (pa_cons (pv 1) (pa_cons (pv 2) pa_nil)))))
      (pss_cons (ps_if (pt_cmpR op_in_seq (pe_ix ix_tup (pv 3) pe_int (fun _ _ => rfl)) (pe_tup (pa_cons pe_str (pa_cons pe_str pa_nil))) (by with_unfolding_all rfl)) (pss_one (ps_ret pe_non)) pss_nil)
      (pss_one (ps_ret (pe_tup (pa_cons (pv 2) (pa_cons (pe_ix ix_tup (pv 3) pe_int (fun _ _ => rfl)) (pa_cons (pe_ifExp (pt_cmpR op_eq (pe_ix ix_tup (pv 3) pe_int (fun _ _ => rfl)) pe_str (nomark _)) (pe_ix ix_tup (pv 3) pe_int (fun _ _ => rfl)) (pe_ix ix_tup (pv 3) pe_int (fun _ _ => rfl))) pa_nil))))))), ?_⟩
    refine ⟨_, rfl, _, rfl, _, rfl, p, fs, ds, v, st, t, rfl, hG, hS, W, ht, fun u hu => ?_⟩
    rw [hcmd] at hu
    have hu : LineAt H u cm.line := hu
    dsimp only [gName]
    obtain ⟨lr, ws, rfl, elr, _⟩ := id hu
    refine PuS.ifs (c := cm.line.1 = "set" ∨ cm.line.1 = "skip") (fun Qt q => ⟨_, rfl, lr, _, _, .str cm.line.1, rfl, rfl, SqT.of elr, atI_nat (j := 0) rfl, (by show 2 ≤ sizeLine; decide), fun tp ntp => ⟨tp, _, rfl, .inr (SqT.of upd_same), rfl, rfl, _, rfl, ?_⟩⟩) (fun H1 s1 z => ?_) (fun H1 s1 z => ?_)
    · show Qt (inV (.str cm.line.1) [.str "set", .str "skip"]) _
      rw [inV_two, show (decide (cm.line.1 = "set") || decide (cm.line.1 = "skip")) = decide (cm.line.1 = "set" ∨ cm.line.1 = "skip") by rw [Bool.eq_iff_iff]; simp]
      exact q _ (same_new ntp)
    · refine k .non H1 s1 ?_
      rw [deedC_none z]
      rfl
    · obtain ⟨r', us, x, e', er', ex, ed⟩ := deed_parts (t := t) hu (fun y => z (.inl y)) (fun y => z (.inr y))
      cases e'
      have er1 := SqT.of (K := K) (s1 _ _ er')
      refine ⟨_, rfl, _, rfl, lr, _, _, .str cm.line.1, rfl, rfl, er1, atI_nat (j := 0) rfl, _, rfl, lr, _, _, .str cm.line.1, rfl, rfl, er1, atI_nat (j := 0) rfl, rfl, _, rfl, ?_⟩
      rw [dec_str']
      by_cases hw : cm.line.1 = "read"
      · rw [decide_eq_true hw]
        rw [if_pos hw] at ex
        refine iteT ⟨_, rfl, lr, _, _, .int (x : Int), rfl, rfl, er1, atI_nat (j := 2) ex, (by show 3 ≤ sizeLine; decide), fun d nd => k (.ref d) _ (s1.trans (same_new nd)) ?_⟩
        rw [ed]
        exact ⟨d, rfl, upd_same⟩
      · rw [decide_eq_false hw]
        rw [if_neg hw] at ex
        refine iteF ⟨_, rfl, lr, _, _, .int (x : Int), rfl, rfl, er1, atI_nat (j := 1) ex, (by show 3 ≤ sizeLine; decide), fun d nd => k (.ref d) _ (s1.trans (same_new nd)) ?_⟩
        rw [ed]
        exact ⟨d, rfl, upd_same⟩
theorem scRun : FnScope ["program", "schedule", "state", "deeds", "thread", "behind", "deed"] ["program", "schedule"] (defScope s_run) := ⟨rfl, rfl, rfl, by decide +kernel, rfl, by decide +kernel, by decide +kernel⟩
theorem ok_run {f CP fB fM fD : Addr} {fd fdB fdM fdD : FuncData} (F : Fun K "run" "run" s_run f fd)
    (GB : FnOk P w K mg base CX0 2 fB fdB ["program"] (spBegin K CP)) (cB : Cal K mg "begin" fB fdB ["program"])
    (GM : FnOk P w K mg base CX0 5 fM fdM ["program", "state", "thread"] (spMoved K CP)) (cM : Cal K mg "moved" fM fdM ["program", "state", "thread"])
    (GD : FnOk P w K mg base CX0 3 fD fdD ["program", "state", "thread"] (spDeedOf K CP)) (cD : Cal K mg "deed_of" fD fdD ["program", "state", "thread"]) : FnOk P w K mg base CX0 6 f fd ["program", "schedule"] (spRun K CP) := by
  refine F.ok scRun (fun vs H Q E h => ?_) (fun cdv A outer s H vs Q E hr h => ?_)
  · obtain ⟨p, l, fs, ds, ts, s, dd, rfl, _⟩ := h
    rfl
  · obtain ⟨p, l, fs, ds, ts, st, dd, rfl, hG, hl, hR, htl, k⟩ := h
    have nd := scRun.nd
    have hr2 : Room 2 _ := hr.mono (by decide)
    have hr3 : Room 3 _ := hr.mono (by decide)
    refine ⟨_, pss_cons (ps_set (i := 2) nd rfl (Or.inl rfl) (pe_call GB hr2 rfl cB.mgf cB.kp cB.b .nil pass0 (pa_cons (pv 0) pa_nil)))
      (pss_cons (ps_set (i := 3) nd rfl (Or.inl rfl) (pe_lst pa_nil))
      (pss_cons (ps_for PassesOwn.never rfl (pi_list (pv 1)) (pg_name (i := 4) nd rfl (Or.inl rfl))
        (pss_cons (ps_set (i := 5) nd rfl (Or.inl rfl) (pe_call GM hr rfl cM.mgf cM.kp cM.b .nil pass0 (pa_cons (pv 0) (pa_cons (pv 2) (pa_cons (pv 4) pa_nil)))))
        (pss_cons (ps_set (i := 6) nd rfl (Or.inl rfl) (pe_call GD hr3 rfl cD.mgf cD.kp cD.b .nil pass0 (pa_cons (pv 0) (pa_cons (pv 2) (pa_cons (pv 4) pa_nil)))))
        (pss_cons (ps_if (pt_cmpR op_notN (pv 6) pe_non (nomark _)) (pss_one (ps_expr (pe_bm PySem.F.plainAttrs_list PySem.F.slot_list_append PySem.F.type_list_append mt_append (pv 3) (pa_cons (pv 6) pa_nil)))) pss_nil)
        (pss_one (ps_set (i := 2) nd rfl (Or.inl rfl) (pv 5)))))))
      (pss_one (ps_ret (pe_tup (pa_cons (pv 2) (pa_cons (pv 3) pa_nil))))))), ?_⟩
    refine ⟨_, rfl, p, fs, ds, rfl, hG, fun v0 H1 s1 hv0 => ?_⟩
    dsimp only [gName]
    refine ⟨Nat.zero_le _, fun ld nld => ?_⟩
    dsimp only [gName]
    have s2 : Same H1 (upd H1 ld (.lst [])) := same_new nld
    refine ⟨_, rfl, l, rfl, ⟨_, (s1.trans s2).seq hl⟩, for_list (K := K) (a := l) (xs := ts.map vN) (fun i σ H2 => ∃ (v : V) (s : Ste) (d1 : List Deed) (us : List V) (v4 v5 v6 : Option V), σ = [some (.ref p), some (.ref l), some v, some (.ref ld), v4, v5, v6] ∧ Same H1 H2 ∧ StAt K H2 v s ∧ Rn ds fs (ts.take i) s d1 ∧ H2 ld = some (.lst us) ∧ Paired (DeedR H2) us d1 ∧ us.length ≤ i)
      ⟨v0, _, [], [], none, none, none, rfl, s2, hv0.same s2, by rw [List.take_zero]; exact .nil, upd_same, .nil, Nat.le_refl _⟩ (fun i σ H2 _ ⟨_, _, _, _, _, _, _, _, s3, _⟩ => (s1.trans s3).seq hl) ?_ ?_⟩
    · rintro i x σ H2 hx ⟨v, s, d1, us, v4, v5, v6, rfl, s3, hv, hRi, eld, hP, lu⟩
      dsimp only [gName]
      rw [List.getElem?_map] at hx
      obtain ⟨t, et, rfl⟩ := Option.map_eq_some_iff.mp hx
      have hi : i < ts.length := (List.getElem?_eq_some_iff.mp et).1
      obtain ⟨s', d', c, hR', ht, hmay, hcmd⟩ := hR.at i t et
      obtain ⟨q1, q2⟩ := hRi.inj rfl hR'
      subst q1 q2
      have s13 := s1.trans s3
      refine ⟨_, rfl, _, rfl, _, rfl, p, fs, ds, v, s', t, c, rfl, hG.same s13, hv, hRi.wf, ht, hmay, hcmd, fun v' H3 s4 hv' => ?_⟩
      dsimp only [gName]
      refine ⟨_, rfl, _, rfl, _, rfl, p, fs, ds, v, s', t, c, rfl, hG.same (s13.trans s4), hv.same s4, hRi.wf, ht, hcmd, fun u H4 s5 hu => ?_⟩
      dsimp only [gName]
      have s45 := s4.trans s5
      have eld4 := s45 _ _ eld
      have hP4 : Paired (DeedR H4) us d' := RC.Paired.imp (fun _ _ q => DeedR.ts (TSame.of s45) q) hP
      have step := hRi.snoc ht hmay hcmd
      rw [← take_snoc' et] at step
      cases ed : deedC t c with
      | none =>
        rw [ed] at hu step
        have hu : u = .non := hu
        subst hu
        refine PuT.ifs (c := False) (fun Qt q => ⟨_, rfl, rfl, _, rfl, q⟩) (fun z => z.elim) (fun _ => ⟨_, rfl, v', _, d', us, _, _, _, rfl, s3.trans s45, hv'.same s5, ?_, eld4, hP4, by omega⟩)
        have : d' ++ (none : Option Deed).toList = d' := List.append_nil _
        rw [this] at step
        exact step
      | some d =>
        rw [ed] at hu step
        obtain ⟨ru, rfl, eru⟩ := (hu : DeedR H4 u d)
        refine PuT.ifs (c := True) (fun Qt q => ⟨_, rfl, rfl, _, rfl, q⟩) (fun _ => ?_) (fun z => absurd trivial z)
        have ts : TSame H4 (upd H4 ld (.lst (us ++ [.ref ru]))) := tsame_lst eld4
        refine ⟨_, rfl, .inl ⟨rfl, _, SqL.of eld4⟩, _, rfl, ld, us, _, rfl, rfl, eld4, small1000 (by omega), _, rfl, v', _, d' ++ [d], us ++ [.ref ru], _, _, _, rfl, (s3.trans s45).put2 nld, (hv'.same s5).ls (LSame.put eld4), step, upd_same, ?_, by rw [List.length_append, List.length_singleton]; omega⟩
        exact RC.Paired.app (RC.Paired.imp (fun _ _ q => DeedR.ts ts q) hP4) (.cons ⟨ru, rfl, ts _ _ eru⟩ .nil)
    · rintro σ H2 ⟨v, s, d1, us, v4, v5, v6, rfl, s3, hv, hRi, eld, hP, lu⟩
      rw [List.length_map, List.take_length] at hRi
      obtain ⟨q1, q2⟩ := hR.inj rfl hRi
      subst q1 q2
      refine ⟨_, rfl, _, rfl, (by show 2 ≤ sizeLine; decide), fun r nr => ?_⟩
      have s4 : Same H2 (upd H2 r (.tup [v, .ref ld])) := same_new nr
      exact k r v ld us _ (s1.trans (s3.trans s4)) upd_same (hv.same s4) (s1.free nld) (s4 _ _ eld) (RC.Paired.imp (fun _ _ q => DeedR.ts (TSame.of s4) q) hP)
end
end K
namespace K
open PySem L2 RC
def spLMay (K : PySem.W.Frag) : Sp := fun vs H Q _ => ∃ (lc : Addr) (xs : List V) (ds : List (List Cmd)) (n : Nat) (v : V) (s : Ste) (t : Nat), vs = [.ref lc, v, .int (t : Int)] ∧ SqL K H lc xs ∧ Paired (CodR K H) xs (codesC ds) ∧ StAt K H v s ∧ Wf ds.length n s ∧ t < ds.length ∧ (∀ d ∈ ds, ∀ c ∈ d, c.ok ds.length n) ∧ Q (.bl (mayB ds s t)) H
abbrev nLMay : List Str := ["_law_codes_here", "_law_state", "_law_thread", "_law_lines", "_law_owns", "_law_values", "_law_holders", "_law_awake", "_law_row"]
theorem cod_at {K : PySem.W.Frag} {H : Hp} {xs : List V} {ds : List (List Cmd)} {t : Nat} (h : Paired (CodR K H) xs (codesC ds)) (ht : t < ds.length) : ∃ c us, xs[t]? = some (.ref c) ∧ SqL K H c us ∧ LinesAt H us (linesC (ds.getD t [])) ∧ us.length = (ds.getD t []).length := by
  obtain ⟨u, eu, c, us, rfl, hc, hl⟩ := RC.Paired.get' h (codesC_get ht)
  refine ⟨c, us, eu, hc, hl, ?_⟩
  rw [RC.Paired.len hl]
  unfold linesC
  rw [List.length_map]
section
variable {P : Program} {w : World} {K : PySem.W.Frag} {mg : Str → Option Value} {base : Heap}
theorem scLMay : FnScope nLMay ["_law_codes_here", "_law_state", "_law_thread"] (defScope s__law_may) := ⟨rfl, rfl, rfl, by decide +kernel, rfl, by decide +kernel, by decide +kernel⟩
theorem ok_lmay {f : Addr} {fd : FuncData} (F : Fun K "_law_may" "_law_may" s__law_may f fd) (B : TxB mg) : FnOk P w K mg base CX0 1 f fd ["_law_codes_here", "_law_state", "_law_thread"] (spLMay K) := by
  refine F.ok scLMay (fun vs H Q E h => ?_) (fun cdv A outer s H vs Q E hr h => ?_)
  · obtain ⟨lc, xs, ds, n, v, s, t, rfl, _⟩ := h
    rfl
  · obtain ⟨lc, xs, ds, n, v, st, t, rfl, hc, hcs, hS, W, ht, hok, k⟩ := h
    have nd := scLMay.nd
    obtain ⟨r, a, b, c, d, e, os, rfl, h0, h1, h2, h3, h4, h5, h6⟩ := hS
    refine ⟨_, pss_cons (ps_asg (pv 1) (pg_tup rfl (pgs_cons (pg_name (i := 3) nd rfl (Or.inl rfl)) (pgs_cons (pg_name (i := 4) nd rfl (Or.inl rfl)) (pgs_cons (pg_name (i := 5) nd rfl (Or.inl rfl)) (pgs_cons (pg_name (i := 6) nd rfl (Or.inl rfl)) (pgs_cons (pg_name (i := 7) nd rfl (Or.inl rfl)) pgs_nil)))))))
      (pss_cons (ps_if (PW.pt (pw_or (pt_not (pt_val (pe_ix ix_tup (pv 7) (pv 2) (fun _ _ => rfl)))) (pw_or1 (pt_cmpR op_ge (pe_ix ix_tup (pv 3) (pv 2) (fun _ _ => rfl)) (pe_callB call_len_seq (by rfl) B.len PySem.boot_len (pa_cons (pe_ix ix_list (pv 0) (pv 2) (fun _ _ => rfl)) pa_nil)) (nomark _))))) (pss_one (ps_ret pe_bl)) pss_nil)
      (pss_cons (ps_set (i := 8) nd rfl (Or.inl rfl) (pe_ix ix_list (pe_ix ix_list (pv 0) (pv 2) (fun _ _ => rfl)) (pe_ix ix_tup (pv 3) (pv 2) (fun _ _ => rfl)) (fun _ _ => rfl)))
      (pss_cons (ps_if (pt_cmpR op_eq (pe_ix ix_tup (pv 8) pe_int (fun _ _ => rfl)) pe_str (nomark _)) (pss_one (ps_ret (pe_cmpR op_isN (pe_ix ix_tup (pv 6) (pe_ix ix_tup (pv 8) pe_int (fun _ _ => rfl)) (fun _ _ => rfl)) pe_non (nomark _)))) pss_nil)
      (pss_cons (ps_if (pt_cmpR op_eq (pe_ix ix_tup (pv 8) pe_int (fun _ _ => rfl)) pe_str (nomark _)) (pss_one (ps_ret (pe_cmpR op_eq (pe_ix ix_tup (pv 6) (pe_ix ix_tup (pv 8) pe_int (fun _ _ => rfl)) (fun _ _ => rfl)) (pv 2) (nomark _)))) pss_nil)
      (pss_cons (ps_if (pt_cmpR op_eq (pe_ix ix_tup (pv 8) pe_int (fun _ _ => rfl)) pe_str (nomark _)) (pss_one (ps_ret (pe_not (pe_ix ix_tup (pv 7) (pe_ix ix_tup (pv 8) pe_int (fun _ _ => rfl)) (fun _ _ => rfl))))) pss_nil)
      (pss_cons (ps_if (pt_cmpR op_eq (pe_ix ix_tup (pv 8) pe_int (fun _ _ => rfl)) pe_str (nomark _)) (pss_one (ps_ret (pe_and (pe_ix ix_tup (pv 7) (pe_ix ix_tup (pv 8) pe_int (fun _ _ => rfl)) (fun _ _ => rfl)) (pe_one (pe_cmpR op_ge (pe_ix ix_tup (pv 3) (pe_ix ix_tup (pv 8) pe_int (fun _ _ => rfl)) (fun _ _ => rfl)) (pe_callB call_len_seq (by rfl) B.len PySem.boot_len (pa_cons (pe_ix ix_list (pv 0) (pe_ix ix_tup (pv 8) pe_int (fun _ _ => rfl)) (fun _ _ => rfl)) pa_nil)) (nomark _)))))) pss_nil)
      (pss_one (ps_ret pe_bl)))))))), ?_⟩
    refine ⟨_, rfl, r, _, rfl, h0, rfl, _, _, rfl, _, _, rfl, _, _, rfl, _, _, rfl, _, _, rfl, rfl, ?_⟩
    dsimp only [gName]
    obtain ⟨cc, us, ec, hcc, hll, lu⟩ := cod_at hcs ht
    have ge : ∀ {j : Nat} {ws : List V}, ws.length = (ds.getD j []).length → decide ((ws.length : Int) ≤ ((st.li.getD j 0 : Nat) : Int)) = endB ds st j := fun {j ws} e => by
      unfold endB
      rw [e]
      exact decide_eq_decide.mpr (by omega)
    refine PuT.ret (c := st.aw.getD t false = false ∨ cmdAt ds st t = none) ((PuT.or (a := !st.aw.getD t false) (b := endB ds st t) (PuT.not (fun Qt q => ⟨_, rfl, _, rfl, e, _, _, .bl (st.aw.getD t false), rfl, rfl, h6, map_at (by rw [W.aw]; exact ht), _, rfl, q⟩))
      (fun _ Qt q => ⟨_, rfl, _, rfl, a, _, _, vN (st.li.getD t 0), rfl, rfl, h1, map_at (by rw [W.li]; exact ht), _, rfl, _, rfl, lc, _, _, .ref cc, rfl, rfl, hc, atI_nat ec, cc, us, rfl, .inl hcc, _, _, rfl, rfl, _, rfl, by rw [ge lu]; exact q⟩)).iff (by rw [Bool.or_eq_true, cmdAt_end]; simp)) (fun z => ?_) (fun z => ?_)
    · have : mayB ds st t = false := by
        unfold mayB
        rcases z with z | z
        · rw [z]; rfl
        · rw [z, Bool.and_false]
      rw [this] at k
      exact k
    obtain ⟨cm, ecm⟩ := Option.ne_none_iff_exists'.mp (fun y => z (.inr y))
    have ea : st.aw.getD t false = true := by
      cases q : st.aw.getD t false with
      | true => rfl
      | false => exact absurd (.inl q) z
    have em : mayB ds st t = letB ds st t cm := by
      unfold mayB
      rw [ea, ecm]
      rfl
    rw [em] at k
    have ok := cmdAt_ok hok ecm
    have ell : (linesC (ds.getD t []))[st.li.getD t 0]? = some cm.line := by
      unfold linesC
      rw [List.getElem?_map]
      unfold cmdAt at ecm
      rw [ecm]
      rfl
    obtain ⟨u, eu, hL⟩ := RC.Paired.get' hll ell
    obtain ⟨lr, ws, rfl, elr, _⟩ := id hL
    refine ⟨_, rfl, _, rfl, lc, _, _, .ref cc, rfl, rfl, hc, atI_nat ec, _, rfl, _, rfl, a, _, _, vN (st.li.getD t 0), rfl, rfl, h1, map_at (by rw [W.li]; exact ht), cc, us, _, .ref lr, rfl, rfl, hcc, atI_nat eu, ?_⟩
    dsimp only [gName]
    have wd : ∀ x : Str, PuT (tTest (tOp rEq (tOp (rIxT K) (tVar 8) (tC (.int 0))) (tC (.str x)))) [some (.ref lc), some (.ref r), some (.int (t : Int)), some (.ref a), some (.ref b), some (.ref c), some (.ref d), some (.ref e), some (.ref lr)] H (decide (cm.line.1 = x)) := fun x Qt q => ⟨_, rfl, lr, _, _, .str cm.line.1, rfl, rfl, SqT.of elr, atI_nat (j := 0) rfl, rfl, _, rfl, by rw [dec_str']; exact q⟩
    refine PuT.ifs (c := cm.line.1 = "take") (wd _) (fun z => ?_) (fun z1 => ?_)
    · obtain ⟨x, rfl⟩ := is_take z
      obtain ⟨lr', e', er'⟩ := line1 hL
      cases e'
      have ok : x < 3 := ok
      refine ⟨_, rfl, _, rfl, lr, _, _, .int (x : Int), rfl, rfl, SqT.of er', rfl, d, _, _, vH (st.ho.getD x none), rfl, rfl, h5, map_at (by rw [W.ho]; exact ok), rfl, ?_⟩
      rw [dec_vN]
      exact k
    refine PuT.ifs (c := cm.line.1 = "give") (wd _) (fun z => ?_) (fun z2 => ?_)
    · obtain ⟨x, rfl⟩ := is_give z
      obtain ⟨lr', e', er'⟩ := line1 hL
      cases e'
      have ok : x < 3 := ok
      refine ⟨_, rfl, _, rfl, lr, _, _, .int (x : Int), rfl, rfl, SqT.of er', rfl, d, _, _, vH (st.ho.getD x none), rfl, rfl, h5, map_at (by rw [W.ho]; exact ok), _, rfl, scal_vH _ _, ?_⟩
      rw [dec_vH]
      exact k
    refine PuT.ifs (c := cm.line.1 = "fork") (wd _) (fun z => ?_) (fun z3 => ?_)
    · obtain ⟨x, rfl⟩ := is_fork z
      obtain ⟨lr', e', er'⟩ := line1 hL
      cases e'
      have ok : x < ds.length := ok
      exact ⟨_, rfl, _, rfl, lr, _, _, .int (x : Int), rfl, rfl, SqT.of er', rfl, e, _, _, .bl (st.aw.getD x false), rfl, rfl, h6, map_at (by rw [W.aw]; exact ok), _, rfl, k⟩
    refine PuT.ifs (c := cm.line.1 = "wait") (wd _) (fun z => ?_) (fun z4 => ?_)
    · obtain ⟨x, rfl⟩ := is_wait z
      obtain ⟨lr', e', er'⟩ := line1 hL
      cases e'
      have ok : x < ds.length := ok
      obtain ⟨cx, ux, ecx, hcx, _, lux⟩ := cod_at hcs ok
      refine ⟨_, rfl, _, rfl, lr, _, _, .int (x : Int), rfl, rfl, SqT.of er', rfl, e, _, _, .bl (st.aw.getD x false), rfl, rfl, h6, map_at (by rw [W.aw]; exact ok), st.aw.getD x false, rfl, ?_⟩
      cases ex : st.aw.getD x false with
      | false =>
        have eb : letB ds st t (.wait x) = false := by show (st.aw.getD x false && endB ds st x) = false; rw [ex]; rfl
        rw [eb] at k
        exact iteF k
      | true =>
        have eb : letB ds st t (.wait x) = endB ds st x := by show (st.aw.getD x false && endB ds st x) = _; rw [ex]; rfl
        rw [eb, ← ge lux] at k
        exact iteT ⟨_, rfl, _, rfl, lr, _, _, .int (x : Int), rfl, rfl, SqT.of er', rfl, a, _, _, vN (st.li.getD x 0), rfl, rfl, h1, map_at (by rw [W.li]; exact ok), _, rfl, _, rfl, lr, _, _, .int (x : Int), rfl, rfl, SqT.of er', rfl, lc, _, _, .ref cx, rfl, rfl, hc, atI_nat ecx, cx, ux, rfl, .inl hcx, _, _, rfl, rfl, k⟩
    · rw [letB_else z1 z2 z3 z4] at k
      exact k
end
end K
namespace L2
open PySem PySem.Spec PyProof.Rows
section
variable {X : Cx} {pos : Pos}
end
end L2
namespace L2
open PySem
theorem seq_hide {a b : TS} {D : Ends} {σ : St} {H : Hp} (h : ∀ D' : Ends, (∀ σ' H', b D σ' H' → D'.nx σ' H') → a D' σ H) : tSeq a b D σ H := h _ (fun _ _ x => x)
end L2
namespace L2
open PySem
theorem FnOk.or {P : Program} {w : World} {K : PySem.W.Frag} {mg : Str → Option Value} {base : Heap} {CX : CXT} {k : Nat} {f : Addr} {fd : FuncData} {ps : List Str} {sp sp' : Sp} (F : FnOk P w K mg base CX k f fd ps sp) (G : FnOk P w K mg base CX k f fd ps sp') :
    FnOk P w K mg base CX k f fd ps (fun vs H Q E => sp vs H Q E ∨ sp' vs H Q E) :=
  ⟨fun vs H Q E h => h.elim (F.len vs H Q E) (G.len vs H Q E), fun A outer s H args us vs Q E hr he hb hv hs => hs.elim (F.run A outer s H args us vs Q E hr he hb hv) (G.run A outer s H args us vs Q E hr he hb hv)⟩
theorem FnOk.lift {P : Program} {w : World} {K : PySem.W.Frag} {mg : Str → Option Value} {base : Heap} {CX : CXT} {k : Nat} {f : Addr} {fd : FuncData} {ps : List Str} {sp : Sp} (F : FnOk P w K mg base CX0 k f fd ps sp) : FnOk P w K mg base CX k f fd ps sp :=
  ⟨F.len, fun A outer s H args us vs Q E hr he hb hv hs => codeAny_mono (F.run A outer s H args us vs Q E hr he hb hv hs) fun r s' h => by
    cases r with
    | ok v => cases v <;> exact h
    | error e => exact h.elim⟩
end L2
namespace K
open PySem L2 RC
structure TxtV (K : PySem.W.Frag) (mg : Str → Option Value) (CN : Addr) : Prop where
  mgN : mg "NoMove" = some (.ref CN)
  ex : L2.Exc K CN
def NoI (t : Int) : Prop := t.natAbs.log2 < 1920 ∧ (Str.ofString (toString t)).length ≤ 1000
def spMovedNo (K : PySem.W.Frag) (CP CN : Addr) : Sp := fun vs H _ E => ∃ (p : Addr) (fs : List Int) (ds : List (List Cmd)) (v : V) (s : Ste) (t : Int), vs = [.ref p, v, .int t] ∧ PG CP H p fs ds ∧ StAt K H v s ∧ Wf ds.length fs.length s ∧ mayI ds s t = false ∧ NoI t ∧ ∀ H', Same H H' → E (.ref CN) none H'
abbrev spMovedX (K : PySem.W.Frag) (CP CN : Addr) : Sp := fun vs H Q E => spMoved K CP vs H Q E ∨ spMovedNo K CP CN vs H Q E
def spRunNo (K : PySem.W.Frag) (CP CN : Addr) : Sp := fun vs H _ E => ∃ (p l : Addr) (fs : List Int) (ds : List (List Cmd)) (ts : List Nat) (s : Ste) (dd : List Deed) (b : Int) (rest : List V), vs = [.ref p, .ref l] ∧ PG CP H p fs ds ∧ SqL K H l (ts.map vN ++ .int b :: rest) ∧ Rn ds fs ts s dd ∧ ts.length ≤ 100 ∧ mayI ds s b = false ∧ NoI b ∧ ∀ H', Same H H' → E (.ref CN) none H'
section
variable {P : Program} {w : World} {K : PySem.W.Frag} {mg : Str → Option Value} {base : Heap}
theorem ok_movedNo {f CP CN fM : Addr} {fd fdM : FuncData} (F : Fun K "moved" "moved" s_moved f fd) (TV : TxtV K mg CN)
    (GM : FnOk P w K mg base CX0 4 fM fdM ["program", "state", "thread"] (spMay K CP)) (cM : Cal K mg "may_move" fM fdM ["program", "state", "thread"]) : FnOk P w K mg base (CXE P w) 5 f fd ["program", "state", "thread"] (spMovedNo K CP CN) := by
  refine F.okX scMoved (fun vs H Q E h => ?_) (fun cdv A outer s H vs Q E hr h => ?_)
  · obtain ⟨p, fs, ds, v, s, t, rfl, _⟩ := h
    rfl
  · obtain ⟨p, fs, ds, v, st, t, rfl, hG, hS, W, hmay, hI, k⟩ := h
    have nd := scMoved.nd
    refine ⟨_, pss_cons (ps_if (pt_not (pt_val (pe_call GM hr rfl cM.mgf cM.kp cM.b .nil pass0 (pa_cons (pv 0) (pa_cons (pv 1) (pa_cons (pv 2) pa_nil))))))
      (pss_one (ps_raise TV.ex rfl TV.mgN (pa_cons (pe_fstr (pstrs_cons (pstr_const (Nat.le_refl _)) (pstrs_cons (pstr_intV (n := 1000) (pv 2)) (pstrs_cons (pstr_const (Nat.le_refl _)) pstrs_nil))) (by decide +kernel)) pa_nil))) pss_nil) pss_never, ?_⟩
    refine PuS.ifs (c := True) (PuS.not (a := false) (fun Qt q => ⟨_, rfl, _, rfl, _, rfl, p, fs, ds, v, st, t, rfl, hG, hS, W, fun H' s' => ⟨false, by rw [hmay], q H' s'⟩⟩)) (fun H1 s1 _ => ?_) (fun _ _ z => absurd trivial z)
    exact ⟨⟨trivial, ⟨_, rfl, rfl, t, rfl, hI.1, hI.2⟩, trivial, trivial⟩, fun x _ => ⟨(show 1 ≤ sizeLine by decide), k _ s1⟩⟩
theorem ok_runNo {f CP CN fB fM fD : Addr} {fd fdB fdM fdD : FuncData} (F : Fun K "run" "run" s_run f fd)
    (GB : FnOk P w K mg base CX0 2 fB fdB ["program"] (spBegin K CP)) (cB : Cal K mg "begin" fB fdB ["program"])
    (GM : FnOk P w K mg base (CXE P w) 5 fM fdM ["program", "state", "thread"] (spMovedX K CP CN)) (cM : Cal K mg "moved" fM fdM ["program", "state", "thread"])
    (GD : FnOk P w K mg base CX0 3 fD fdD ["program", "state", "thread"] (spDeedOf K CP)) (cD : Cal K mg "deed_of" fD fdD ["program", "state", "thread"]) : FnOk P w K mg base (CXE P w) 6 f fd ["program", "schedule"] (spRunNo K CP CN) := by
  refine F.okX scRun (fun vs H Q E h => ?_) (fun cdv A outer s H vs Q E hr h => ?_)
  · obtain ⟨p, l, fs, ds, ts, s, dd, b, rest, rfl, _⟩ := h
    rfl
  · obtain ⟨p, l, fs, ds, ts, st, dd, b, rest, rfl, hG, hl, hR, htl, hmb, hI, k⟩ := h
    have nd := scRun.nd
    have hr2 : Room 2 _ := hr.mono (by decide)
    have hr3 : Room 3 _ := hr.mono (by decide)
    refine ⟨_, pss_cons (ps_set (i := 2) nd rfl (Or.inl rfl) (pe_call GB hr2 rfl cB.mgf cB.kp cB.b .nil pass0 (pa_cons (pv 0) pa_nil)))
      (pss_cons (ps_set (i := 3) nd rfl (Or.inl rfl) (pe_lst pa_nil))
      (pss_cons (ps_for PassesOwn.leaving rfl (pi_list (pv 1)) (pg_name (i := 4) nd rfl (Or.inl rfl))
        (pss_cons (ps_set (i := 5) nd rfl (Or.inl rfl) (pe_call GM hr rfl cM.mgf cM.kp cM.b .nil passX (pa_cons (pv 0) (pa_cons (pv 2) (pa_cons (pv 4) pa_nil)))))
        (pss_cons (ps_set (i := 6) nd rfl (Or.inl rfl) (pe_call GD hr3 rfl cD.mgf cD.kp cD.b .nil pass0 (pa_cons (pv 0) (pa_cons (pv 2) (pa_cons (pv 4) pa_nil)))))
        (pss_cons (ps_if (pt_cmpR op_notN (pv 6) pe_non (nomark _)) (pss_one (ps_expr (pe_bm PySem.F.plainAttrs_list PySem.F.slot_list_append PySem.F.type_list_append mt_append (pv 3) (pa_cons (pv 6) pa_nil)))) pss_nil)
        (pss_one (ps_set (i := 2) nd rfl (Or.inl rfl) (pv 5)))))))
      (pss_one (ps_ret (pe_tup (pa_cons (pv 2) (pa_cons (pv 3) pa_nil))))))), ?_⟩
    refine ⟨_, rfl, p, fs, ds, rfl, hG, fun v0 H1 s1 hv0 => ?_⟩
    dsimp only [gName]
    refine ⟨Nat.zero_le _, fun ld nld => ?_⟩
    dsimp only [gName]
    have s2 : Same H1 (upd H1 ld (.lst [])) := same_new nld
    refine ⟨_, rfl, l, rfl, ⟨_, (s1.trans s2).seq hl⟩, for_list (K := K) (a := l) (xs := ts.map vN ++ .int b :: rest) (fun i σ H2 => ∃ (v : V) (s : Ste) (d1 : List Deed) (us : List V) (v4 v5 v6 : Option V), σ = [some (.ref p), some (.ref l), some v, some (.ref ld), v4, v5, v6] ∧ Same H1 H2 ∧ StAt K H2 v s ∧ Rn ds fs (ts.take i) s d1 ∧ H2 ld = some (.lst us) ∧ Paired (DeedR H2) us d1 ∧ us.length ≤ i ∧ i ≤ ts.length)
      ⟨v0, _, [], [], none, none, none, rfl, s2, hv0.same s2, by rw [List.take_zero]; exact .nil, upd_same, .nil, Nat.le_refl _, Nat.zero_le _⟩ (fun i σ H2 _ ⟨_, _, _, _, _, _, _, _, s3, _⟩ => (s1.trans s3).seq hl) ?_ ?_⟩
    · rintro i x σ H2 hx ⟨v, s, d1, us, v4, v5, v6, rfl, s3, hv, hRi, eld, hP, lu, hil⟩
      dsimp only [gName]
      by_cases hi : i < ts.length
      case neg =>
        have ei : i = ts.length := by omega
        subst ei
        rw [List.getElem?_append_right (by rw [List.length_map]; exact Nat.le_refl _), List.length_map, Nat.sub_self] at hx
        cases hx
        rw [List.take_length] at hRi
        obtain ⟨q1, q2⟩ := hR.inj rfl hRi
        subst q1 q2
        exact ⟨_, rfl, _, rfl, _, rfl, .inr ⟨p, fs, ds, v, _, b, rfl, hG.same (s1.trans s3), hv, hRi.wf, hmb, hI, fun H' s' => k H' (s1.trans (s3.trans s'))⟩⟩
      rw [List.getElem?_append_left (by rw [List.length_map]; exact hi), List.getElem?_map] at hx
      obtain ⟨t, et, rfl⟩ := Option.map_eq_some_iff.mp hx
      obtain ⟨s', d', c, hR', ht, hmay, hcmd⟩ := hR.at i t et
      obtain ⟨q1, q2⟩ := hRi.inj rfl hR'
      subst q1 q2
      have s13 := s1.trans s3
      refine ⟨_, rfl, _, rfl, _, rfl, .inl ⟨p, fs, ds, v, s', t, c, rfl, hG.same s13, hv, hRi.wf, ht, hmay, hcmd, fun v' H3 s4 hv' => ?_⟩⟩
      dsimp only [gName]
      refine ⟨_, rfl, _, rfl, _, rfl, p, fs, ds, v, s', t, c, rfl, hG.same (s13.trans s4), hv.same s4, hRi.wf, ht, hcmd, fun u H4 s5 hu => ?_⟩
      dsimp only [gName]
      have s45 := s4.trans s5
      have eld4 := s45 _ _ eld
      have hP4 : Paired (DeedR H4) us d' := RC.Paired.imp (fun _ _ q => DeedR.ts (TSame.of s45) q) hP
      have step := hRi.snoc ht hmay hcmd
      rw [← take_snoc' et] at step
      cases ed : deedC t c with
      | none =>
        rw [ed] at hu step
        have hu : u = .non := hu
        subst hu
        refine PuT.ifs (c := False) (fun Qt q => ⟨_, rfl, rfl, _, rfl, q⟩) (fun z => z.elim) (fun _ => ⟨_, rfl, v', _, d', us, _, _, _, rfl, s3.trans s45, hv'.same s5, ?_, eld4, hP4, by omega, by omega⟩)
        have : d' ++ (none : Option Deed).toList = d' := List.append_nil _
        rw [this] at step
        exact step
      | some d =>
        rw [ed] at hu step
        obtain ⟨ru, rfl, eru⟩ := (hu : DeedR H4 u d)
        refine PuT.ifs (c := True) (fun Qt q => ⟨_, rfl, rfl, _, rfl, q⟩) (fun _ => ?_) (fun z => absurd trivial z)
        have ts : TSame H4 (upd H4 ld (.lst (us ++ [.ref ru]))) := tsame_lst eld4
        refine ⟨_, rfl, .inl ⟨rfl, _, SqL.of eld4⟩, _, rfl, ld, us, _, rfl, rfl, eld4, small1000 (by omega), _, rfl, v', _, d' ++ [d], us ++ [.ref ru], _, _, _, rfl, (s3.trans s45).put2 nld, (hv'.same s5).ls (LSame.put eld4), step, upd_same, ?_, by rw [List.length_append, List.length_singleton]; omega, by omega⟩
        exact RC.Paired.app (RC.Paired.imp (fun _ _ q => DeedR.ts ts q) hP4) (.cons ⟨ru, rfl, ts _ _ eru⟩ .nil)
    · rintro σ H2 ⟨v, s, d1, us, v4, v5, v6, rfl, s3, hv, hRi, eld, hP, lu, hil⟩
      rw [List.length_append, List.length_map, List.length_cons] at hil
      omega
end
end K
namespace K
open PySem L2 RC
theorem hu64P {A : Around} {k : Nat} (hr : Room k A) : A.units + 64 < cLine := hr.units
structure TxtE (K : PySem.W.Frag) (mg : Str → Option Value) (CN CE : Addr) : Prop where
  mgN : mg "NoMove" = some (.ref CN)
  mgE : mg "RaceError" = some (.ref CE)
  exN : PySem.W.ExcCls K CN
  exE : PySem.W.ExcCls K CE
  tyE : PySem.W.typeIn K (.ref CE) = some (.type "type")
  up : PySem.W.mroIn K CN (.ref CE) = some true
  val : mg "ValueError" = none
  isV : PySem.W.kitOne K (.ref CN) (.type "ValueError") = some true
  n1 : ∃ C, mg "NoRow" = some (.ref C) ∧ PySem.W.kitOne K (.ref CN) (.ref C) = some false
  n2 : ∃ C, mg "NoWeaving" = some (.ref C) ∧ PySem.W.kitOne K (.ref CN) (.ref C) = some false
  n3 : ∃ C, mg "NoRace" = some (.ref C) ∧ PySem.W.kitOne K (.ref CN) (.ref C) = some false
  n4 : ∃ C, mg "NoText" = some (.ref C) ∧ PySem.W.kitOne K (.ref CN) (.ref C) = some false
  n5 : ∃ C, mg "TooGreat" = some (.ref C) ∧ PySem.W.kitOne K (.ref CN) (.ref C) = some false
  n6 : ∃ C, mg "NoProgram" = some (.ref C) ∧ PySem.W.kitOne K (.ref CN) (.ref C) = some false
  n7 : ∃ C, mg "NoWords" = some (.ref C) ∧ PySem.W.kitOne K (.ref CN) (.ref C) = some false
theorem kit_self {K : PySem.W.Frag} {C : Addr} : PySem.W.kitOne K (.ref C) (.ref C) = some true := by
  unfold PySem.W.kitOne
  rw [if_pos (by simp)]
theorem bValE : bootBuiltins "ValueError" = some (.type "ValueError") := by decide +kernel
def RefM (K : PySem.W.Frag) (CP : Addr) (vs : List V) (H : Hp) : Prop :=
  (∃ (p : Addr) (fs : List Int) (ds : List (List Cmd)) (r : Addr) (s : Ste) (t : Int) (u : V), vs = [.ref p, .ref r, .int t, u] ∧ PG CP H p fs ds ∧ StAt K H (.ref r) s ∧ Wf ds.length fs.length s ∧ mayI ds s t = false ∧ NoI t) ∨
  ∃ (p l : Addr) (fs : List Int) (ds : List (List Cmd)) (ts : List Nat) (s : Ste) (dd : List Deed) (b : Int) (rest : List V) (u : V), vs = [.ref p, .non, u, .ref l] ∧ PG CP H p fs ds ∧ SqL K H l (ts.map vN ++ .int b :: rest) ∧ Rn ds fs ts s dd ∧ ts.length ≤ 100 ∧ mayI ds s b = false ∧ NoI b
theorem RefM.same {K : PySem.W.Frag} {CP : Addr} {vs : List V} {H H' : Hp} (s : Same H H') (h : RefM K CP vs H) : RefM K CP vs H' := by
  rcases h with ⟨p, fs, ds, r, st, t, u, e, hG, hS, h⟩ | ⟨p, l, fs, ds, ts, st, dd, b, rest, u, e, hG, hl, h⟩
  · exact .inl ⟨p, fs, ds, r, st, t, u, e, hG.same s, hS.same s, h⟩
  · exact .inr ⟨p, l, fs, ds, ts, st, dd, b, rest, u, e, hG.same s, s.seq hl, h⟩
theorem RefM.len {K : PySem.W.Frag} {CP : Addr} {vs : List V} {H : Hp} (h : RefM K CP vs H) : ∃ a b c d, vs = [a, b, c, d] := by
  rcases h with ⟨p, fs, ds, r, st, t, u, e, _⟩ | ⟨p, l, fs, ds, ts, st, dd, b, rest, u, e, _⟩
  · exact ⟨_, _, _, _, e⟩
  · exact ⟨_, _, _, _, e⟩
def spAsk (K : PySem.W.Frag) (CP CN : Addr) : Sp := fun vs H _ E => RefM K CP vs H ∧ ∀ H', Same H H' → E (.ref CN) none H'
def spRef (K : PySem.W.Frag) (CP : Addr) : Sp := fun vs H Q _ => RefM K CP vs H ∧ ∀ H', Same H H' → Q (.bl true) H'
abbrev nAsk : List Str := ["_law_made", "_law_state", "_law_thread", "_law_schedule"]
abbrev nRef : List Str := ["_law_made", "_law_state", "_law_thread", "_law_schedule", "_law_seen_so", "e", "_law_others"]
def datL : PyData := .list [.bool true, .bool true, .bool false]
theorem shaped_l : PySem.SeqAt.shaped datL = true := by decide +kernel
theorem eqv_l : PyData.eqv datL datL = true := by decide +kernel
section
variable {P : Program} {w : World} {K : PySem.W.Frag} {mg : Str → Option Value} {base : Heap}
theorem scAsk : FnScope nAsk nAsk (defScope s__law_asked) := ⟨rfl, rfl, rfl, by decide +kernel, rfl, by decide +kernel, by decide +kernel⟩
theorem ok_ask {f CP CN fM fR : Addr} {fd fdM fdR : FuncData} (F : Fun K "_law_asked" "_law_asked" s__law_asked f fd)
    (GM : FnOk P w K mg base (CXE P w) 5 fM fdM ["program", "state", "thread"] (spMovedNo K CP CN)) (cM : Cal K mg "moved" fM fdM ["program", "state", "thread"])
    (GR : FnOk P w K mg base (CXE P w) 6 fR fdR ["program", "schedule"] (spRunNo K CP CN)) (cR : Cal K mg "run" fR fdR ["program", "schedule"]) : FnOk P w K mg base (CXE P w) 7 f fd nAsk (spAsk K CP CN) := by
  refine F.okX scAsk (fun vs H Q E h => ?_) (fun cdv A outer s H vs Q E hr h => ?_)
  · obtain ⟨a, b, c, d, rfl⟩ := h.1.len
    rfl
  · obtain ⟨h, k⟩ := h
    have hr5 : Room 5 _ := hr.mono (by decide)
    obtain ⟨va, vb, vc, vd, rfl⟩ := h.len
    refine ⟨_, pss_cons (ps_if (pt_cmpR op_isN (pv 1) pe_non (nomark _)) (pss_one (ps_ret (pe_call GR hr rfl cR.mgf cR.kp cR.b .nil passX (pa_cons (pv 0) (pa_cons (pv 3) pa_nil))))) pss_nil)
      (pss_one (ps_ret (pe_call GM hr5 rfl cM.mgf cM.kp cM.b .nil passX (pa_cons (pv 0) (pa_cons (pv 1) (pa_cons (pv 2) pa_nil)))))), ?_⟩
    rcases h with ⟨p, fs, ds, r, st, t, u, e, hG, hS, W, hm, hI⟩ | ⟨p, l, fs, ds, ts, st, dd, b, rest, u, e, hG, hl, hR, htl, hm, hI⟩
    · cases e
      exact PuT.ifs (c := False) (fun Qt q => ⟨_, rfl, rfl, _, rfl, q⟩) (fun z => z.elim) (fun _ => ⟨_, rfl, _, rfl, _, rfl, p, fs, ds, .ref r, st, t, rfl, hG, hS, W, hm, hI, k⟩)
    · cases e
      exact PuT.ifs (c := True) (fun Qt q => ⟨_, rfl, rfl, _, rfl, q⟩) (fun _ => ⟨_, rfl, _, rfl, p, l, fs, ds, ts, st, dd, b, rest, rfl, hG, hl, hR, htl, hm, hI, k⟩) (fun z => absurd trivial z)
theorem scRef : FnScope nRef nAsk (defScope sRef) := ⟨rfl, rfl, rfl, by decide +kernel, rfl, by decide +kernel, by decide +kernel⟩
theorem ok_ref {f CP CN CE fA : Addr} {fd fdA : FuncData} (F : Fun K "_law_refused" "_law_refused" sRef f fd) (B : TxB mg) (TE : TxtE K mg CN CE)
    (GA : FnOk P w K mg base (CXE P w) 7 fA fdA nAsk (spAsk K CP CN)) (cA : Cal K mg "_law_asked" fA fdA nAsk) : FnOk P w K mg base CX0 8 f fd nAsk (spRef K CP) := by
  refine F.ok scRef (fun vs H Q E h => ?_) (fun cdv A outer s H vs Q E hr h => ?_)
  · obtain ⟨a, b, c, d, rfl⟩ := h.1.len
    rfl
  · obtain ⟨h, k⟩ := h
    obtain ⟨va, vb, vc, vd, rfl⟩ := h.len
    have nd := scRef.nd
    have hu := hu64P hr
    refine ⟨_, pss_cons (ps_set (i := 4) nd rfl (Or.inl rfl) (pe_lst pa_nil))
      (pss_cons (ps_try (i := 5) nd rfl (px_call GA hr rfl cA.mgf cA.kp cA.b .nil (pa_cons (pv 0) (pa_cons (pv 1) (pa_cons (pv 2) (pa_cons (pv 3) pa_nil))))) rfl TE.mgE TE.exE TE.tyE)
      (pss_one (ps_ret (pe_cmpR (op_eqD hu) (pv 4) (pe_lst (pa_cons pe_bl (pa_cons pe_bl (pa_cons pe_bl pa_nil)))) (nomark _))))), ?_⟩
    refine ⟨(by show 0 ≤ sizeLine; decide), fun p0 np0 => ?_⟩
    dsimp only [gName]
    have s0 := same_new (o := .lst []) np0
    generalize upd H p0 (.lst []) = H0 at s0
    refine ⟨_, rfl, _, rfl, _, rfl, _, rfl, h.same s0, fun H2 s2 => ⟨CN, rfl, TE.up, fun ea oe nea hoe => ?_⟩⟩
    obtain ⟨C1, m1, k1⟩ := TE.n1
    obtain ⟨C2, m2, k2⟩ := TE.n2
    obtain ⟨C3, m3, k3⟩ := TE.n3
    obtain ⟨C4, m4, k4⟩ := TE.n4
    obtain ⟨C5, m5, k5⟩ := TE.n5
    obtain ⟨C6, m6, k6⟩ := TE.n6
    obtain ⟨C7, m7, k7⟩ := TE.n7
    refine ⟨_, pss_cons (ps_set (i := 6) nd rfl (Or.inl rfl) (pe_lst (pa_cons (pe_callB (call_isx (.head _) hoe TE.exN) (by rfl) B.isi bIsi (pa_cons (pv 5) (pa_cons (pe_glob rfl m1 (v := .ref C1) rfl) pa_nil))) (pa_cons (pe_callB (call_isx (.head _) hoe TE.exN) (by rfl) B.isi bIsi (pa_cons (pv 5) (pa_cons (pe_glob rfl m2 (v := .ref C2) rfl) pa_nil))) (pa_cons (pe_callB (call_isx (.head _) hoe TE.exN) (by rfl) B.isi bIsi (pa_cons (pv 5) (pa_cons (pe_glob rfl m3 (v := .ref C3) rfl) pa_nil))) (pa_cons (pe_callB (call_isx (.head _) hoe TE.exN) (by rfl) B.isi bIsi (pa_cons (pv 5) (pa_cons (pe_glob rfl m4 (v := .ref C4) rfl) pa_nil))) pa_nil))))))
      (pss_cons (ps_set (i := 6) nd rfl (Or.inl rfl) (pe_op op_cat (pv 6) (pe_lst (pa_cons (pe_callB (call_isx (.head _) hoe TE.exN) (by rfl) B.isi bIsi (pa_cons (pv 5) (pa_cons (pe_glob rfl m5 (v := .ref C5) rfl) pa_nil))) (pa_cons (pe_callB (call_isx (.head _) hoe TE.exN) (by rfl) B.isi bIsi (pa_cons (pv 5) (pa_cons (pe_glob rfl m6 (v := .ref C6) rfl) pa_nil))) (pa_cons (pe_callB (call_isx (.head _) hoe TE.exN) (by rfl) B.isi bIsi (pa_cons (pv 5) (pa_cons (pe_glob rfl m7 (v := .ref C7) rfl) pa_nil))) pa_nil))))))
      (pss_one (ps_set (i := 4) nd rfl (Or.inl rfl) (pe_lst (pa_cons (pe_callB (call_isx (.head _) hoe TE.exN) (by rfl) B.isi bIsi (pa_cons (pv 5) (pa_cons (pe_glob rfl TE.mgN (v := .ref CN) rfl) pa_nil))) (pa_cons (pe_callB (call_isx (.head _) hoe TE.exN) (by rfl) B.isi bIsi (pa_cons (pv 5) (pa_cons (pe_bltn rfl TE.val bValE (v := .ty "ValueError") rfl) pa_nil))) (pa_cons (pe_cmpR op_in_seq pe_bl (pv 6) rfl) pa_nil))))))), ?_⟩
    refine ⟨_, rfl, .ref C1, false, rfl, ⟨_, fun _ r => r, k1⟩, _, rfl, .ref C2, false, rfl, ⟨_, fun _ r => r, k2⟩, _, rfl, .ref C3, false, rfl, ⟨_, fun _ r => r, k3⟩, _, rfl, .ref C4, false, rfl, ⟨_, fun _ r => r, k4⟩, (by show 4 ≤ sizeLine; decide), fun p1 np1 => ?_⟩
    dsimp only [gName]
    have s1 := same_new (o := .lst [.bl false, .bl false, .bl false, .bl false]) np1
    have e1 : upd H2 p1 (.lst [.bl false, .bl false, .bl false, .bl false]) p1 = some (.lst [.bl false, .bl false, .bl false, .bl false]) := upd_same
    generalize upd H2 p1 (.lst [.bl false, .bl false, .bl false, .bl false]) = H3 at s1 e1
    refine ⟨_, rfl, _, rfl, .ref C5, false, rfl, ⟨_, fun _ r => r, k5⟩, _, rfl, .ref C6, false, rfl, ⟨_, fun _ r => r, k6⟩, _, rfl, .ref C7, false, rfl, ⟨_, fun _ r => r, k7⟩, (by show 3 ≤ sizeLine; decide), fun p2 np2 => ?_⟩
    have s3 := same_new (o := .lst [.bl false, .bl false, .bl false]) np2
    have e2 : upd H3 p2 (.lst [.bl false, .bl false, .bl false]) p2 = some (.lst [.bl false, .bl false, .bl false]) := upd_same
    generalize upd H3 p2 (.lst [.bl false, .bl false, .bl false]) = H4 at s3 e2
    refine ⟨p1, p2, _, _, rfl, rfl, s3 _ _ e1, e2, (by show 7 ≤ sizeLine; decide), fun p3 np3 => ?_⟩
    dsimp only [gName]
    have s4 := same_new (o := .lst ([.bl false, .bl false, .bl false, .bl false] ++ [.bl false, .bl false, .bl false])) np3
    have e3 : upd H4 p3 (.lst ([.bl false, .bl false, .bl false, .bl false] ++ [.bl false, .bl false, .bl false])) p3 = some (.lst ([.bl false, .bl false, .bl false, .bl false] ++ [.bl false, .bl false, .bl false])) := upd_same
    generalize upd H4 p3 (.lst ([.bl false, .bl false, .bl false, .bl false] ++ [.bl false, .bl false, .bl false])) = H5 at s4 e3
    refine ⟨_, rfl, .ref CN, true, rfl, ⟨_, fun _ r => r, kit_self⟩, _, rfl, .ty "ValueError", true, rfl, ⟨_, fun _ r => r, TE.isV⟩, _, rfl, p3, _, rfl, .inl (SqL.of e3), rfl, rfl, (by show 3 ≤ sizeLine; decide), fun p4 np4 => ?_⟩
    dsimp only [gName, Ends.gone]
    have s5 := same_new (o := .lst [.bl true, .bl true, .bl false]) np4
    have e4 : upd H5 p4 (.lst [.bl true, .bl true, .bl false]) p4 = some (.lst [.bl true, .bl true, .bl false]) := upd_same
    refine ⟨_, rfl, (by show 3 ≤ sizeLine; decide), fun p5 np5 => ?_⟩
    have s6 := same_new (o := .lst [.bl true, .bl true, .bl false]) np5
    refine ⟨datL, datL, .lst (SqL.of (s6 _ _ e4)) (.cons (.bl _) (.cons (.bl _) (.cons (.bl _) .nil))), .lst (SqL.of upd_same) (.cons (.bl _) (.cons (.bl _) (.cons (.bl _) .nil))), shaped_l, shaped_l, ?_⟩
    have : V.bl (if false = true then !PyData.eqv datL datL else PyData.eqv datL datL) = V.bl true := by rw [if_neg (by decide), eqv_l]
    rw [this]
    exact k _ (s0.trans (s2.trans (s1.trans (s3.trans (s4.trans (s5.trans s6))))))
end
end K
namespace K
open PySem L2 RC
theorem noI {x : Int} (h1 : -(10 ^ 60) < x) (h2 : x < 10 ^ 60) : NoI x := by
  constructor
  · by_cases z : x.natAbs = 0
    · rw [z]; decide
    · rw [Nat.log2_lt z]
      have : x.natAbs < 10 ^ 60 := by omega
      exact Nat.lt_of_lt_of_le this (by decide +kernel)
  · by_cases z : 0 ≤ x
    · exact Nat.le_trans (PyProof.Rows.toString_length_le z (k := 60) (by decide) h2) (by decide)
    · have h0 : 0 ≤ 0 - x := by omega
      have l := PyProof.Rows.toString_length_le h0 (k := 60) (by decide) (by omega)
      rw [PyProof.Rows.toString_neg (by omega)]
      rw [PyProof.Rows.ofString_length] at l ⊢
      rw [String.toList_append, List.length_append]
      have : ("-" : String).toList.length = 1 := by decide
      omega
abbrev nWr : List Str := ["_law_codes_here", "_law_state", "_law_cell", "_law_many", "_law_far", "_law_wrong_here", "_law_thread"]
def spWr (K : PySem.W.Frag) : Sp := fun vs H Q _ => ∃ (lc : Addr) (xs : List V) (ds : List (List Cmd)) (n : Nat) (v : V) (s : Ste) (cell : Int), vs = [.ref lc, v, .int cell] ∧ SqL K H lc xs ∧ Paired (CodR K H) xs (codesC ds) ∧ StAt K H v s ∧ Wf ds.length n s ∧ ds.length ≤ 3 ∧ (∀ d ∈ ds, ∀ c ∈ d, c.ok ds.length n) ∧
  ∀ (r : Addr) (ws : List Int) (H' : Hp), Same H H' → H r = none → H' r = some (.lst (ws.map V.int)) → ws.length ≤ 5 → (∀ x ∈ ws, mayI ds s x = false ∧ NoI x) → Q (.ref r) H'
theorem mayI_out {ds : List (List Cmd)} {s : Ste} {x : Int} (h : x < 0 ∨ (ds.length : Int) ≤ x) : mayI ds s x = false := by
  unfold mayI
  rw [if_neg (by omega)]
theorem mayI_in {ds : List (List Cmd)} {s : Ste} {i : Nat} (h : i < ds.length) : mayI ds s (i : Int) = mayB ds s i := by
  unfold mayI
  rw [if_pos ⟨by omega, by omega⟩]
  rfl
section
variable {P : Program} {w : World} {K : PySem.W.Frag} {mg : Str → Option Value} {base : Heap}
theorem scWr : FnScope nWr ["_law_codes_here", "_law_state", "_law_cell"] (defScope s__law_wrong) := ⟨rfl, rfl, rfl, by decide +kernel, rfl, by decide +kernel, by decide +kernel⟩
theorem ok_wr {f fN : Addr} {fd fdN : FuncData} (F : Fun K "_law_wrong" "_law_wrong" s__law_wrong f fd) (B : TxB mg)
    (GN : FnOk P w K mg base CX0 1 fN fdN ["_law_codes_here", "_law_state", "_law_thread"] (spLMay K)) (cN : Cal K mg "_law_may" fN fdN ["_law_codes_here", "_law_state", "_law_thread"]) : FnOk P w K mg base CX0 2 f fd ["_law_codes_here", "_law_state", "_law_cell"] (spWr K) := by
  refine F.ok scWr (fun vs H Q E h => ?_) (fun cdv A outer s H vs Q E hr h => ?_)
  · obtain ⟨lc, xs, ds, n, v, s, cell, rfl, _⟩ := h
    rfl
  · obtain ⟨lc, xs, ds, n, v, st, cell, rfl, hc, hcs, hv, W, d3, hok, k⟩ := h
    have nd := scWr.nd
    refine ⟨_, pss_cons (ps_set (i := 3) nd rfl (Or.inl rfl) (pe_callB call_len_seq (by rfl) B.len PySem.boot_len (pa_cons (pv 0) pa_nil)))
      (pss_cons (ps_set (i := 4) nd rfl (Or.inl rfl) (pe_ix ix_list (pe_lst (pa_cons pe_int (pa_cons (pe_op op_mod (pe_op op_fdiv (pv 2) pe_int) (pe_op op_pow pe_int pe_int)) pa_nil))) (pe_op op_mod (pv 2) pe_int) (fun _ _ => rfl)))
      (pss_cons (ps_set (i := 5) nd rfl (Or.inl rfl) (pe_lst (pa_cons (pe_op op_add (pv 3) (pv 4)) (pa_cons (pe_op op_sub (pe_un un_neg pe_int) (pv 4)) pa_nil))))
      (pss_cons (ps_for PassesOwn.never rfl (pi_range1 rfl B.rng (pa_cons (pv 3) pa_nil)) (pg_name (i := 6) nd rfl (Or.inl rfl))
        (pss_one (ps_if (pt_not (pt_val (pe_call GN hr rfl cN.mgf cN.kp cN.b .nil pass0 (pa_cons (pv 0) (pa_cons (pv 1) (pa_cons (pv 6) pa_nil)))))) (pss_one (ps_expr (pe_bm PySem.F.plainAttrs_list PySem.F.slot_list_append PySem.F.type_list_append mt_append (pv 5) (pa_cons (pv 6) pa_nil)))) pss_nil)))
      (pss_one (ps_ret (pv 5)))))), ?_⟩
    have xl : xs.length = ds.length := by rw [RC.Paired.len hcs, codesC_len]
    refine seq_hide fun D' hD => ?_
    refine ⟨_, rfl, lc, xs, rfl, .inl hc, hD _ _ ?_⟩
    refine seq_hide fun D' hD => ?_
    obtain ⟨far, ef, f0, f1⟩ : ∃ far : Int, atI [V.int 0, .int (cell / 2 % 10 ^ (59 : Int).toNat)] (cell % 2) = some (.int far) ∧ 0 ≤ far ∧ far < 10 ^ 59 := by
      have p59 : (10 : Int) ^ (59 : Int).toNat = 10 ^ 59 := rfl
      rcases (by omega : cell % 2 = 0 ∨ cell % 2 = 1) with z | z
      · exact ⟨0, by rw [z]; rfl, by omega, by decide⟩
      · refine ⟨cell / 2 % 10 ^ (59 : Int).toNat, by rw [z]; rfl, Int.emod_nonneg _ (by rw [p59]; decide), ?_⟩
        rw [p59]
        exact Int.emod_lt_of_pos _ (by decide)
    refine ⟨_, rfl, _, _, rfl, rfl, ⟨by decide, by decide⟩, _, _, rfl, rfl, ⟨by decide, by decide, by decide⟩, _, _, rfl, rfl, (by show (0 : Int) < 10 ^ (59 : Int).toNat; decide), (by show 2 ≤ sizeLine; decide), fun p np => ⟨_, rfl, _, _, rfl, rfl, (by show (0 : Int) < 2; decide), p, _, _, .int far, rfl, rfl, SqL.of upd_same, ef, hD _ _ ?_⟩⟩
    have s1 := same_new (o := .lst [V.int 0, .int (cell / 2 % 10 ^ (59 : Int).toNat)]) np
    generalize upd H p (.lst [V.int 0, .int (cell / 2 % 10 ^ (59 : Int).toNat)]) = H1 at s1
    refine seq_hide fun D' hD => ?_
    refine ⟨_, rfl, _, rfl, _, _, rfl, rfl, _, rfl, _, rfl, _, _, rfl, rfl, (by show 2 ≤ sizeLine; decide), fun lw nw => hD _ _ ?_⟩
    have s2 := s1.trans (same_new (o := .lst [V.int ((xs.length : Int) + far), .int (-1 - far)]) nw)
    have nw0 := s1.free nw
    have ew : upd H1 lw (.lst [V.int ((xs.length : Int) + far), .int (-1 - far)]) lw = some (.lst ([(xs.length : Int) + far, -1 - far].map V.int)) := upd_same
    generalize upd H1 lw (.lst [V.int ((xs.length : Int) + far), .int (-1 - far)]) = H2 at s2 ew
    dsimp only [gName]
    refine seq_hide fun D' hD => ?_
    refine ⟨_, rfl, _, rfl, by omega, by omega, for_range (lo := 0) (n := ((xs.length : Nat) : Int).toNat) (fun i σ H' => ∃ (ws : List Int) (v6 : Option V), σ = [some (.ref lc), some v, some (.int cell), some (.int (xs.length : Int)), some (.int far), some (.ref lw), v6] ∧ Same H H' ∧ H' lw = some (.lst (ws.map V.int)) ∧ ws.length ≤ 2 + i ∧ ∀ x ∈ ws, mayI ds st x = false ∧ NoI x)
      ⟨_, none, rfl, s2, ew, Nat.le_refl _, ?_⟩ ?_ ?_⟩
    · intro x hx
      simp only [List.mem_cons, List.not_mem_nil, or_false] at hx
      rcases hx with rfl | rfl
      · exact ⟨mayI_out (.inr (by omega)), noI (by omega) (by omega)⟩
      · exact ⟨mayI_out (.inl (by omega)), noI (by omega) (by omega)⟩
    · rintro i σ H3 hi ⟨ws, v6, rfl, s3, ew, lw', hws⟩
      have e0 : (0 : Int) + (i : Int) = (i : Int) := by omega
      rw [e0]
      have hi' : i < ds.length := by rw [← xl]; simpa using hi
      dsimp only [gName]
      refine PuT.if1 (c := mayB ds st i = false) ((PuT.not (a := mayB ds st i) (fun Qt q => ⟨_, rfl, _, rfl, _, rfl, lc, xs, ds, n, v, st, i, rfl, s3.seq hc, codRs_same s3 hcs, hv.same s3, W, hi', hok, _, rfl, q⟩)).iff (by simp)) (fun z => ?_) (fun z => ⟨ws, _, rfl, s3, ew, by omega, hws⟩)
      refine ⟨_, rfl, .inl ⟨rfl, _, SqL.of ew⟩, _, rfl, lw, _, _, rfl, rfl, ew, small1000 (by rw [List.length_map]; omega), ?_⟩
      refine ⟨ws ++ [(i : Int)], _, rfl, s3.put2 nw0, by rw [upd_same, List.map_append]; rfl, by rw [List.length_append, List.length_singleton]; omega, fun x hx => ?_⟩
      rcases List.mem_append.mp hx with q | q
      · exact hws x q
      · rw [List.mem_singleton] at q
        subst q
        exact ⟨by rw [mayI_in hi']; exact z, noI (by omega) (by omega)⟩
    · rintro σ H3 ⟨ws, v6, rfl, s3, ew, lw', hws⟩
      refine hD _ _ ⟨_, rfl, k lw ws H3 s3 nw0 ew ?_ hws⟩
      have : ((xs.length : Nat) : Int).toNat = xs.length := Int.toNat_natCast _
      omega
end
end K
namespace K
open PySem L2 RC
abbrev nLaw : List Str := ["_law_script", "_law_size", "_law_many", "_law_codes_here", "_law_firsts_here", "_law_made", "_law_state", "_law_schedule", "_law_cell", "_law_thread", "_law_some", "_law_wrong_here", "_law_handed"]
theorem ndLi : (["_law_lines"] : List Str).Nodup := by decide +kernel
theorem ndTCS : (["_law_thread", "_law_codes_here", "_law_state"] : List Str).Nodup := by decide +kernel
theorem ndTCM : (["_law_thread", "_law_codes_here", "_law_made"] : List Str).Nodup := by decide +kernel
def forBody : Stmt → List Stmt
  | .For _ _ b _ _ => b
  | _ => []
def JL (K : PySem.W.Frag) (ds : List (List Cmd)) (fs : List Int) (H7 : Hp) (a r rf p lsc a8 : Addr) (sz : Nat) (mn : Int) (ms : List Int) (i : Nat) (σ : St) (H9 : Hp) : Prop :=
  ∃ (v : V) (st : Ste) (ts : List Nat) (dd : List Deed) (v8 v9 v10 v11 v12 : Option V), σ = [some (.ref a), some (.int (sz : Int)), some (.int mn), some (.ref r), some (.ref rf), some (.ref p), some v, some (.ref lsc), v8, v9, v10, v11, v12] ∧
        Same H7 H9 ∧ H9 a8 = some (.lst (ms.map V.int)) ∧ H9 lsc = some (.lst (ts.map vN)) ∧ StAt K H9 v st ∧ Rn ds fs ts st dd ∧ ts.length ≤ i
theorem st_ref {K : PySem.W.Frag} {H : Hp} {v : V} {s : Ste} (h : StAt K H v s) : ∃ r, v = .ref r := by
  obtain ⟨r, _, _, _, _, _, _, e, _⟩ := h
  exact ⟨r, e⟩
section
variable {P : Program} {w : World} {K : PySem.W.Frag} {mg : Str → Option Value} {base : Heap}
theorem scLaw : FnScope nLaw ["_law_script"] (defScope sLaw) := ⟨rfl, rfl, rfl, by decide +kernel, rfl, by decide +kernel, by decide +kernel⟩
theorem turn_ok {f CP fB fM fR fF fW fN : Addr} {fdB fdM fdR fdF fdW fdN : FuncData} (B : TxB mg)
    (GB : FnOk P w K mg base CX0 2 fB fdB ["program"] (spBegin K CP)) (cB : Cal K mg "begin" fB fdB ["program"])
    (GM : FnOk P w K mg base CX0 5 fM fdM ["program", "state", "thread"] (spMoved K CP)) (cM : Cal K mg "moved" fM fdM ["program", "state", "thread"])
    (GR : FnOk P w K mg base CX0 6 fR fdR ["program", "schedule"] (spRun K CP)) (cR : Cal K mg "run" fR fdR ["program", "schedule"])
    (GF : FnOk P w K mg base CX0 8 fF fdF nAsk (spRef K CP)) (cF : Cal K mg "_law_refused" fF fdF nAsk)
    (GW : FnOk P w K mg base CX0 2 fW fdW ["_law_codes_here", "_law_state", "_law_cell"] (spWr K)) (cW : Cal K mg "_law_wrong" fW fdW ["_law_codes_here", "_law_state", "_law_cell"])
    (GN : FnOk P w K mg base CX0 1 fN fdN ["_law_codes_here", "_law_state", "_law_thread"] (spLMay K)) (cN : Cal K mg "_law_may" fN fdN ["_law_codes_here", "_law_state", "_law_thread"])
    {cdv : Value} {A : Around} {outer : List Env} {s : Shared} {H : Hp} {E : XK} (hr : Room 8 (A.deeper (PyProof.Rows.envOfC "law" (defScope sLaw) s.heap.objs.size f cdv))) :
    ∃ t, PSs (cxOf CX0 P w K mg base nLaw "law" (defScope sLaw) f cdv A outer s H E).nox (forBody ((defBody sLaw).getD 7 (.Pass ⟨0, 0, 0, 0⟩))) t ∧ ∀ (D : Ends) (a r rf p lsc a8 : Addr) (sz : Nat) (mn cl : Int) (ms fs : List Int) (i : Nat) (ds : List (List Cmd)) (xs : List V) (v : V) (st : Ste) (ts : List Nat) (dd : List Deed) (v9 v10 v11 v12 : Option V) (H6 H7 H9 : Hp),
      PG CP H6 p fs ds → SqL K H6 r xs → Paired (CodR K H6) xs (codesC ds) → mn = (ds.length : Int) → Same H6 H7 → H7 lsc = none → a8 ≠ lsc → i < 60 → Same H7 H9 → H9 a8 = some (.lst (ms.map V.int)) → H9 lsc = some (.lst (ts.map vN)) → StAt K H9 v st → Rn ds fs ts st dd → ts.length ≤ i →
      (∀ σ' H', JL K ds fs H7 a r rf p lsc a8 sz mn ms (i + 1) σ' H' → D.nx σ' H') →
      t D [some (.ref a), some (.int (sz : Int)), some (.int mn), some (.ref r), some (.ref rf), some (.ref p), some v, some (.ref lsc), some (.int cl), v9, v10, v11, v12] H9 := by
  have nd := scLaw.nd
  have hr1 : Room 1 _ := hr.mono (by decide)
  have hr2 : Room 2 _ := hr.mono (by decide)
  have hr5 : Room 5 _ := hr.mono (by decide)
  have hu := hu64P hr
  refine ⟨_, pss_cons (ps_for PassesOwn.never rfl (pi_list (pe_call GW hr2 rfl cW.mgf cW.kp cW.b .nil pass0 (pa_cons (pv 3) (pa_cons (pv 6) (pa_cons (pv 8) pa_nil))))) (pg_name (i := 9) nd rfl (Or.inl rfl))
        (pss_one (ps_if (pt_not (pt_val (pe_call GF hr rfl cF.mgf cF.kp cF.b .nil pass0 (pa_cons (pv 5) (pa_cons (pv 6) (pa_cons (pv 9) (pa_cons (pe_lst pa_nil) pa_nil))))))) (pss_one (ps_ret pe_bl)) pss_nil)))
      (pss_cons (ps_setComp (N := ["_law_thread", "_law_codes_here", "_law_state"]) (nt := 1) (fr := [3, 6]) (i := 10) (tt := tB (tCall (spLMay K) [] E0 (tCons (tVar 1) (tCons (tVar 2) (tCons (tVar 0) tNil))))) (te := tVar 0) nd rfl (Or.inl rfl) rfl
          (.of (XN := nLaw) (osc := defScope sLaw) rfl rfl rfl (by decide +kernel) (by decide +kernel) (by decide +kernel) rfl (by decide +kernel)) (pi_range1 rfl B.rng (pa_cons (pv 2) pa_nil))
          (fun _ _ _ _ _ _ => ⟨pg_name (i := 0) ndTCS rfl (Or.inl rfl) (Or.inr rfl), pif_one (pt_val (pe_call GN hr1 rfl cN.mgf cN.kp cN.b .nil pass0 (pa_cons (pv 1) (pa_cons (pv 2) (pa_cons (pv 0) pa_nil))))), pv 0⟩))
      (pss_one (ps_if (pt_cmpR (op_neD hu) (pv 10) (pe_lst pa_nil) (nomark _))
        (pss_cons (ps_set (i := 9) nd rfl (Or.inl rfl) (pe_ix ix_list (pv 10) (pe_op op_mod (pv 8) (pe_callB call_len_seq (by rfl) B.len PySem.boot_len (pa_cons (pv 10) pa_nil))) (fun _ _ => rfl)))
        (pss_cons (ps_set (i := 6) nd rfl (Or.inr rfl) (pe_call GM hr5 rfl cM.mgf cM.kp cM.b .nil pass0 (pa_cons (pv 5) (pa_cons (pv 6) (pa_cons (pv 9) pa_nil)))))
        (pss_one (ps_expr (pe_bm PySem.F.plainAttrs_list PySem.F.slot_list_append PySem.F.type_list_append mt_append (pv 7) (pa_cons (pv 9) pa_nil)))))) pss_nil))), ?_⟩
  intro D a r rf p lsc a8 sz mn cl ms fs i0 ds xs v st ts dd v9 v10 v11 v12 H6 H7 H9 hG hc6 PC6 mnl s7 nlsc na8 hi60 s79 e9 esc hv hRn lts k
  have W := hRn.wf
  have s69 := s7.trans s79
  obtain ⟨rS, rfl⟩ := st_ref hv
  refine seq_hide fun D' hD' => ?_
  refine ⟨_, rfl, _, rfl, _, rfl, r, xs, ds, fs.length, .ref rS, st, cl, rfl, s69.seq hc6, codRs_same s69 PC6, hv, W, hG.c3, hG.ok, fun lw ws HA sA nlw elw l5 hws => ?_⟩
  refine ⟨lw, rfl, ⟨_, SqL.of elw⟩, for_list (K := K) (a := lw) (xs := ws.map V.int) (fun j σ H' => ∃ v9, σ = [some (.ref a), some (.int (sz : Int)), some (.int mn), some (.ref r), some (.ref rf), some (.ref p), some (.ref rS), some (.ref lsc), some (.int cl), v9, v10, v11, v12] ∧ Same HA H')
    ⟨v9, rfl, Same.refl _⟩ (fun j σ H' _ ⟨_, _, s'⟩ => s'.seq (SqL.of elw)) ?_ ?_⟩
  · rintro j x σ HB hx ⟨v9, rfl, sB⟩
    rw [List.getElem?_map] at hx
    obtain ⟨y, ey, rfl⟩ := Option.map_eq_some_iff.mp hx
    have hy := hws y (List.mem_of_getElem? ey)
    dsimp only [gName]
    refine PuS.if1 (c := False) (PuS.not (a := true) (fun Qt q => ⟨_, rfl, _, rfl, _, rfl, Nat.zero_le _, fun le nle => ?_⟩)) (fun _ _ z => z.elim) (fun HC sC _ => ⟨_, rfl, sB.trans sC⟩)
    have sl := same_new (o := .lst []) nle
    have s9l := sA.trans (sB.trans sl)
    exact ⟨.inl ⟨p, fs, ds, rS, st, y, .ref le, rfl, hG.same (s69.trans s9l), hv.same s9l, W, hy.1, hy.2⟩, fun H' s' => ⟨true, rfl, q _ (sl.trans s')⟩⟩
  rintro σ HB ⟨v9, rfl, sB⟩
  refine hD' _ _ ?_
  have s9B := sA.trans sB
  have esc := s9B _ _ esc
  have e9 := s9B _ _ e9
  have hv := hv.same s9B
  have s79 := s79.trans s9B
  have s69 := s7.trans s79
  clear sA sB s9B elw nlw
  generalize hvv : V.ref rS = v at hv ⊢
  refine setComp_range (n := ds.length) (fun D i ys H' => Same HB H' ∧ ys = (((List.range i).filter (mayB ds st)).map fun (t : Nat) => (t : Int)).map V.int) (fun Q' q => ⟨_, rfl, by have q' := q; rw [← mnl] at q'; exact q'⟩) (by have := hG.c3; omega) (fun D hD => ⟨same_new hD, rfl⟩) (fun D hD i ys H' N hi ⟨s', ey⟩ hd hys kT kF => ?_) (fun sm nsm ys HA ⟨sA, ey⟩ esm => ?_)
  · refine ⟨_, rfl, _, rfl, _, rfl, r, xs, ds, fs.length, v, st, i, rfl, (s69.trans s').seq hc6, codRs_same (s69.trans s') PC6, hv.same s', W, hi, hG.ok, _, rfl, ?_⟩
    have sn := mv_snoc (f := mayB ds st) (i := i)
    cases hb : mayB ds st i with
    | true =>
      rw [hb, if_pos rfl] at sn
      exact iteT ⟨_, rfl, ys, hd, hys, kT (.int (i : Int)) H' ⟨s'.put2 hD, by rw [sn, ey]⟩⟩
    | false =>
      rw [hb, if_neg (by decide)] at sn
      exact iteF (kF H' hd ⟨s', by rw [sn, ey]⟩)
  have esm : HA sm = some (.lst ((mvI ds st).map V.int)) := by rw [esm, ey]; rfl
  clear ey
  refine PuS.if1 (c := mvI ds st ≠ []) (pus_neNil rfl (SqL.of esm)) (fun HC sC z => ?_) (fun HC sC z => k _ _ ⟨v, st, ts, dd, _, _, _, _, _, rfl, s79.trans (sA.trans sC), (sA.trans sC) _ _ e9, (sA.trans sC) _ _ esc, hv.same (sA.trans sC), hRn, by omega⟩)
  have sAC := sA.trans sC
  have esC := sC _ _ esm
  have hl : 0 < (mvI ds st).length := List.length_pos_iff.mpr z
  have h0 : 0 ≤ cl % ((mvI ds st).length : Int) := Int.emod_nonneg _ (by omega)
  have h1 : cl % ((mvI ds st).length : Int) < ((mvI ds st).length : Int) := Int.emod_lt_of_pos _ (by omega)
  obtain ⟨j, ej⟩ : ∃ j : Nat, cl % ((mvI ds st).length : Int) = (j : Int) := ⟨(cl % ((mvI ds st).length : Int)).toNat, by omega⟩
  have hj : j < (mvI ds st).length := by omega
  have gj : (mvI ds st)[j]? = some (mvI ds st)[j] := by simp [hj]
  obtain ⟨t, et, ht, hmay⟩ := mv_mem gj
  obtain ⟨cm, ecm, _⟩ := may_cmd hmay
  refine seq_hide fun D' hD => ?_
  refine ⟨_, rfl, _, rfl, _, rfl, sm, _, rfl, .inl (SqL.of esC), _, _, rfl, rfl, (by rw [List.length_map]; omega), sm, _, (j : Int), .int (t : Int), rfl, by rw [List.length_map]; show V.int (cl % ((mvI ds st).length : Int)) = _; rw [ej], SqL.of esC, atI_nat (by rw [List.getElem?_map, gj, et]; rfl), hD _ _ ?_⟩
  refine seq_hide fun D' hD => ?_
  refine ⟨_, rfl, _, rfl, _, rfl, p, fs, ds, v, st, t, cm, rfl, hG.same (s69.trans sAC), hv.same sAC, W, ht, hmay, ecm, fun v' HF sF hv' => hD _ _ ?_⟩
  have sAF := sAC.trans sF
  have escF := sAF _ _ esc
  refine ⟨_, rfl, .inl ⟨rfl, _, SqL.of escF⟩, _, rfl, lsc, _, _, rfl, rfl, escF, small1000 (by rw [List.length_map]; omega), ?_⟩
  refine k _ _ ⟨v', _, ts ++ [t], _, _, _, _, _, _, rfl, (s79.trans sAF).put2 nlsc, by rw [upd_ne na8]; exact sAF _ _ e9, by rw [upd_same, List.map_append]; rfl, hv'.ls (LSame.put escF), hRn.snoc ht hmay ecm, by rw [List.length_append, List.length_singleton]; omega⟩
end
end K
namespace K
open PySem L2 RC
section
variable {P : Program} {w : World} {K : PySem.W.Frag} {mg : Str → Option Value} {base : Heap}
theorem end_ok {f CP fB fM fR fF fW fN : Addr} {fdB fdM fdR fdF fdW fdN : FuncData} (B : TxB mg)
    (GB : FnOk P w K mg base CX0 2 fB fdB ["program"] (spBegin K CP)) (cB : Cal K mg "begin" fB fdB ["program"])
    (GM : FnOk P w K mg base CX0 5 fM fdM ["program", "state", "thread"] (spMoved K CP)) (cM : Cal K mg "moved" fM fdM ["program", "state", "thread"])
    (GR : FnOk P w K mg base CX0 6 fR fdR ["program", "schedule"] (spRun K CP)) (cR : Cal K mg "run" fR fdR ["program", "schedule"])
    (GF : FnOk P w K mg base CX0 8 fF fdF nAsk (spRef K CP)) (cF : Cal K mg "_law_refused" fF fdF nAsk)
    (GW : FnOk P w K mg base CX0 2 fW fdW ["_law_codes_here", "_law_state", "_law_cell"] (spWr K)) (cW : Cal K mg "_law_wrong" fW fdW ["_law_codes_here", "_law_state", "_law_cell"])
    (GN : FnOk P w K mg base CX0 1 fN fdN ["_law_codes_here", "_law_state", "_law_thread"] (spLMay K)) (cN : Cal K mg "_law_may" fN fdN ["_law_codes_here", "_law_state", "_law_thread"])
    {cdv : Value} {A : Around} {outer : List Env} {s : Shared} {H : Hp} {E : XK} (hr : Room 8 (A.deeper (PyProof.Rows.envOfC "law" (defScope sLaw) s.heap.objs.size f cdv))) :
    ∃ t, PSs (cxOf CX0 P w K mg base nLaw "law" (defScope sLaw) f cdv A outer s H E).nox ((defBody sLaw).drop 8) t ∧ ∀ (Q : VK) (a r rf p lsc : Addr) (sz : Nat) (mn : Int) (fs : List Int) (ds : List (List Cmd)) (xs : List V) (v : V) (st : Ste) (ts : List Nat) (dd : List Deed) (v8 v9 v10 v11 v12 : Option V) (H6 H9 : Hp),
      PG CP H6 p fs ds → SqL K H6 r xs → Paired (CodR K H6) xs (codesC ds) → mn = (ds.length : Int) → Same H6 H9 → H9 lsc = some (.lst (ts.map vN)) → StAt K H9 v st → Rn ds fs ts st dd → ts.length ≤ 60 → (∀ H', Q (.bl true) H') →
      t { nx := fun _ H' => Q .non H', rt := Q } [some (.ref a), some (.int (sz : Int)), some (.int mn), some (.ref r), some (.ref rf), some (.ref p), some v, some (.ref lsc), v8, v9, v10, v11, v12] H9 := by
  have nd := scLaw.nd
  have hr1 : Room 1 _ := hr.mono (by decide)
  have hr2 : Room 2 _ := hr.mono (by decide)
  have hr6 : Room 6 _ := hr.mono (by decide)
  have hu := hu64P hr
  refine ⟨_, pss_cons (ps_for PassesOwn.never rfl (pi_list (pe_call GW hr2 rfl cW.mgf cW.kp cW.b .nil pass0 (pa_cons (pv 3) (pa_cons (pv 6) (pa_cons pe_int pa_nil))))) (pg_name (i := 11) nd rfl (Or.inl rfl))
        (pss_cons (ps_set (i := 12) nd rfl (Or.inl rfl) (pe_op op_cat (pv 7) (pe_lst (pa_cons (pv 11) pa_nil))))
        (pss_cons (ps_if (PW.pt (pw_or (pt_not (pt_val (pe_call GF hr rfl cF.mgf cF.kp cF.b .nil pass0 (pa_cons (pv 5) (pa_cons pe_non (pa_cons pe_int (pa_cons (pv 12) pa_nil))))))) (pw_or1 (pt_cmpR (op_neD hu) (pv 12) (pe_op op_cat (pv 7) (pe_lst (pa_cons (pv 11) pa_nil))) (nomark _))))) (pss_one (ps_ret pe_bl)) pss_nil)
        (pss_one (ps_if (pt_cmpR (op_neD hu) (pe_ix ix_tup (pe_call GR hr6 rfl cR.mgf cR.kp cR.b .nil pass0 (pa_cons (pv 5) (pa_cons (pe_callTy call_list_of rfl B.lst bList (pa_cons (pv 7) pa_nil)) pa_nil))) pe_int (fun _ _ => rfl)) (pv 6) (nomark _)) (pss_one (ps_ret pe_bl)) pss_nil)))))
      (pss_cons (ps_for PassesOwn.never rfl (pi_list (pe_op op_cat (pe_lst (pa_cons (pv 2) pa_nil)) (pe_comp (N := ["_law_thread", "_law_codes_here", "_law_made"]) (nt := 1) (fr := [3, 5]) (tt := tNot (tB (tCall (spLMay K) [] E0 (tCons (tVar 1) (tCons (tCall (spBegin K CP) [] E0 (tCons (tVar 2) tNil)) (tCons (tVar 0) tNil)))))) (te := tVar 0) rfl
          (.of (XN := nLaw) (osc := defScope sLaw) rfl rfl rfl (by decide +kernel) (by decide +kernel) (by decide +kernel) rfl (by decide +kernel)) (pi_range1 rfl B.rng (pa_cons (pv 2) pa_nil))
          (fun _ _ _ _ _ _ => ⟨pg_name (i := 0) ndTCM rfl (Or.inl rfl) (Or.inr rfl), pif_one (pt_not (pt_val (pe_call GN hr1 rfl cN.mgf cN.kp cN.b .nil pass0 (pa_cons (pv 1) (pa_cons (pe_call GB hr2 rfl cB.mgf cB.kp cB.b .nil pass0 (pa_cons (pv 2) pa_nil)) (pa_cons (pv 0) pa_nil)))))), pv 0⟩)))) (pg_name (i := 11) nd rfl (Or.inl rfl))
        (pss_one (ps_if (pt_not (pt_val (pe_call GF hr rfl cF.mgf cF.kp cF.b .nil pass0 (pa_cons (pv 5) (pa_cons pe_non (pa_cons pe_int (pa_cons (pe_op op_cat (pe_lst (pa_cons (pv 11) pa_nil)) (pv 7)) pa_nil))))))) (pss_one (ps_ret pe_bl)) pss_nil)))
      (pss_one (ps_ret pe_bl))), ?_⟩
  intro Q a r rf p lsc sz mn fs ds xs v st ts dd v8 v9 v10 v11 v12 H6 H9 hG hc6 PC6 mnl s69 esc hv hRn lts k
  have W := hRn.wf
  have d1 : ∀ {H' : Hp} {l : Addr} {ns : List Int}, SqL K H' l (ns.map V.int) → DatA K H' (.ref l) (.list (ns.map PyData.int)) := fun h => .lst h (datas_ints _)
  have en : ∀ y : Int, ts.map vN ++ [V.int y] = (ts.map (fun (n : Nat) => (n : Int)) ++ [y]).map V.int := fun y => by
    rw [List.map_append, List.map_map]
    rfl
  have sz1 : ∀ y : Int, (ts.map vN).length + [V.int y].length ≤ sizeLine := fun y => by rw [List.length_map, sizeLine_eq]; show ts.length + 1 ≤ _; omega
  refine seq_hide fun D' hD' => ?_
  refine ⟨_, rfl, _, rfl, r, xs, ds, fs.length, v, st, 0, rfl, s69.seq hc6, codRs_same s69 PC6, hv, W, hG.c3, hG.ok, fun lw ws HA sA nlw elw l5 hws => ?_⟩
  refine ⟨lw, rfl, ⟨_, SqL.of elw⟩, for_list (K := K) (a := lw) (xs := ws.map V.int) (fun j σ H' => ∃ v11 v12, σ = [some (.ref a), some (.int (sz : Int)), some (.int mn), some (.ref r), some (.ref rf), some (.ref p), some v, some (.ref lsc), v8, v9, v10, v11, v12] ∧ Same HA H')
    ⟨v11, v12, rfl, Same.refl _⟩ (fun j σ H' _ ⟨_, _, _, s'⟩ => s'.seq (SqL.of elw)) ?_ ?_⟩
  · rintro j x σ HB hx ⟨v11, v12, rfl, sB⟩
    rw [List.getElem?_map] at hx
    obtain ⟨y, ey, rfl⟩ := Option.map_eq_some_iff.mp hx
    have hy := hws y (List.mem_of_getElem? ey)
    have s9B := sA.trans sB
    dsimp only [gName]
    refine seq_hide fun D' hD' => ?_
    refine ⟨_, rfl, _, rfl, (by show 1 ≤ sizeLine; decide), fun l1 n1 => ⟨lsc, l1, _, _, rfl, rfl, (same_new n1) _ _ (s9B _ _ esc), upd_same, sz1 y, fun lh nh => hD' _ _ ?_⟩⟩
    have sh := (same_new (o := .lst [V.int y]) n1).trans (same_new (o := .lst (ts.map vN ++ [V.int y])) nh)
    have eh : upd (upd HB l1 (.lst [V.int y])) lh (.lst (ts.map vN ++ [V.int y])) lh = some (.lst (ts.map vN ++ [V.int y])) := upd_same
    generalize upd (upd HB l1 (.lst [V.int y])) lh (.lst (ts.map vN ++ [V.int y])) = HC at sh eh
    have s9C := s9B.trans sh
    refine PuS.ifs (c := False) ((PuS.or (a := false) (b := false) (PuS.not (a := true) (fun Qt q => ⟨_, rfl, _, rfl, .inr ⟨p, lh, fs, ds, ts, st, dd, y, [], .int 0, rfl, hG.same (s69.trans s9C), SqL.of eh, hRn, by omega, hy.1, hy.2⟩, fun H' s' => ⟨true, rfl, q _ s'⟩⟩))
      (fun _ H' s' Qt q => ⟨_, rfl, _, rfl, _, rfl, (by show 1 ≤ sizeLine; decide), fun l2 n2 => ⟨lsc, l2, _, _, rfl, rfl, (same_new n2) _ _ (s' _ _ (s9C _ _ esc)), upd_same, sz1 y, fun l3 n3 => ?inner⟩⟩)).iff (by simp)) (fun _ _ z => z.elim) (fun HD sD _ => ?_)
    case inner =>
      rw [en y] at eh ⊢
      have sx := (same_new (o := .lst [V.int y]) n2).trans (same_new (o := .lst ((ts.map (fun (n : Nat) => (n : Int)) ++ [y]).map V.int)) n3)
      exact ⟨_, _, d1 (SqL.of (sx _ _ (s' _ _ eh))), d1 (SqL.of upd_same), shaped_ints _, shaped_ints _, _, rfl, by rw [eqv_same (shaped_ints _)]; exact q _ sx⟩
    have s9D := s9C.trans sD
    refine PuS.if1 (c := False) (fun Qt q => ⟨_, rfl, _, rfl, lsc, _, rfl, .inl (SqL.of (s9D _ _ esc)), fun l4 n4 => ?_⟩) (fun _ _ z => z.elim) (fun HE sE _ => ⟨_, _, rfl, sB.trans (sh.trans (sD.trans sE))⟩)
    have s4 := same_new (o := .lst (ts.map vN)) n4
    refine ⟨p, l4, fs, ds, ts, st, dd, rfl, hG.same (s69.trans (s9D.trans s4)), SqL.of upd_same, hRn, by omega, fun rr vv ld us H5 s5 err hvv nld eld hus => ?_⟩
    exact ⟨rr, _, _, vv, rfl, rfl, SqT.of err, rfl, _, rfl, _, _, hvv.dat, (hv.same (s9D.trans (s4.trans s5))).dat, shaped_st st, shaped_st st, _, rfl, by rw [eqv_same (shaped_st st)]; exact q _ (s4.trans s5)⟩
  rintro σ HB ⟨v11, v12, rfl, sB⟩
  refine hD' _ _ ?_
  have s9B := sA.trans sB
  have s6B := s69.trans s9B
  have Wb := wf_beg ds.length fs
  refine seq_hide fun D' hD' => ?_
  refine ⟨_, rfl, (by show 1 ≤ sizeLine; decide), fun l1 n1 => ?_⟩
  have s1 := same_new (o := .lst [V.int mn]) n1
  have e1 : upd HB l1 (.lst [V.int mn]) l1 = some (.lst [V.int mn]) := upd_same
  generalize upd HB l1 (.lst [V.int mn]) = H1 at s1 e1
  have s61 := s6B.trans s1
  refine tComp_range (n := ds.length) (fun D i ys H' => Same H1 H' ∧ ∃ ws : List Int, ys = ws.map V.int ∧ ws.length ≤ i ∧ ∀ x ∈ ws, mayI ds (beg ds.length fs) x = false ∧ NoI x) (fun Q' q => ⟨_, rfl, by have q' := q; rw [← mnl] at q'; exact q'⟩) (by have := hG.c3; omega) (fun D hD => ⟨same_new hD, [], rfl, Nat.le_refl _, fun x hx => by cases hx⟩)
    (fun D hD i ys H' N hi ⟨s', ws, ey, lws, hws⟩ hd hys kT kF => ?_) (fun D hD ys H' ⟨s', ws, ey, lws, hws⟩ eD => ?_)
  · refine ⟨_, rfl, _, rfl, p, fs, ds, rfl, hG.same (s61.trans s'), fun vb HC sC hvb => ⟨_, rfl, r, xs, ds, fs.length, vb, _, i, rfl, (s61.trans (s'.trans sC)).seq hc6, codRs_same (s61.trans (s'.trans sC)) PC6, hvb, Wb, hi, hG.ok, _, rfl, ?_⟩⟩
    cases hb : mayB ds (beg ds.length fs) i with
    | true => exact iteF (kF HC (sC _ _ hd) ⟨s'.trans sC, ws, ey, by omega, hws⟩)
    | false =>
      refine iteT ⟨_, rfl, ys, sC _ _ hd, hys, kT (.int (i : Int)) HC ⟨(s'.trans sC).put2 hD, ws ++ [(i : Int)], by rw [ey, List.map_append]; rfl, by rw [List.length_append, List.length_singleton]; omega, fun x hx => ?_⟩⟩
      have c3 := hG.c3
      rcases List.mem_append.mp hx with q | q
      · exact hws x q
      · rw [List.mem_singleton] at q
        subst q
        exact ⟨by rw [mayI_in hi]; exact hb, noI (by omega) (by omega)⟩
  subst ey
  have c3 := hG.c3
  refine ⟨l1, D, _, _, rfl, rfl, s' _ _ e1, eD, by rw [List.length_map, sizeLine_eq]; show 1 + ws.length ≤ _; omega, fun lz nz => ?_⟩
  have sz' := same_new (o := .lst ([V.int mn] ++ ws.map V.int)) nz
  have ez : upd H' lz (.lst ([V.int mn] ++ ws.map V.int)) lz = some (.lst ((mn :: ws).map V.int)) := upd_same
  generalize upd H' lz (.lst ([V.int mn] ++ ws.map V.int)) = H2 at sz' ez
  have s92 := s9B.trans (s1.trans (s'.trans sz'))
  have hw : ∀ x ∈ mn :: ws, mayI ds (beg ds.length fs) x = false ∧ NoI x := fun x hx => by
    cases hx with
    | head => exact ⟨mayI_out (.inr (by omega)), noI (by omega) (by omega)⟩
    | tail _ h => exact hws x h
  refine ⟨lz, rfl, ⟨_, SqL.of ez⟩, for_list (K := K) (a := lz) (xs := (mn :: ws).map V.int) (fun j σ H' => ∃ v11 v12, σ = [some (.ref a), some (.int (sz : Int)), some (.int mn), some (.ref r), some (.ref rf), some (.ref p), some v, some (.ref lsc), v8, v9, v10, v11, v12] ∧ Same H2 H')
    ⟨v11, v12, rfl, Same.refl _⟩ (fun j σ H' _ ⟨_, _, _, s'⟩ => s'.seq (SqL.of ez)) ?_ ?_⟩
  · rintro j x σ HC hx ⟨v11, v12, rfl, sC⟩
    rw [List.getElem?_map] at hx
    obtain ⟨y, ey, rfl⟩ := Option.map_eq_some_iff.mp hx
    have hy := hw y (List.mem_of_getElem? ey)
    have s9C := s92.trans sC
    dsimp only [gName]
    refine PuS.if1 (c := False) (PuS.not (a := true) (fun Qt q => ⟨_, rfl, _, rfl, (by show 1 ≤ sizeLine; decide), fun l2 n2 => ⟨_, rfl, l2, lsc, _, _, rfl, rfl, upd_same, (same_new n2) _ _ (s9C _ _ esc), by rw [List.length_map, sizeLine_eq]; show 1 + ts.length ≤ _; omega, fun l3 n3 => ?_⟩⟩)) (fun _ _ z => z.elim) (fun HD sD _ => ⟨_, _, rfl, sC.trans sD⟩)
    have sx := (same_new (o := .lst [V.int y]) n2).trans (same_new (o := .lst ([V.int y] ++ ts.map vN)) n3)
    exact ⟨.inr ⟨p, l3, fs, ds, [], _, [], y, ts.map vN, .int 0, rfl, hG.same (s69.trans (s9C.trans sx)), SqL.of upd_same, .nil, by simp, hy.1, hy.2⟩, fun H' s' => ⟨true, rfl, q _ (sx.trans s')⟩⟩
  · rintro σ HC ⟨v11, v12, rfl, sC⟩
    exact hD' _ _ (k _)
theorem tail_ok {f CP fB fM fR fF fW fN : Addr} {fdB fdM fdR fdF fdW fdN : FuncData} (B : TxB mg)
    (GB : FnOk P w K mg base CX0 2 fB fdB ["program"] (spBegin K CP)) (cB : Cal K mg "begin" fB fdB ["program"])
    (GM : FnOk P w K mg base CX0 5 fM fdM ["program", "state", "thread"] (spMoved K CP)) (cM : Cal K mg "moved" fM fdM ["program", "state", "thread"])
    (GR : FnOk P w K mg base CX0 6 fR fdR ["program", "schedule"] (spRun K CP)) (cR : Cal K mg "run" fR fdR ["program", "schedule"])
    (GF : FnOk P w K mg base CX0 8 fF fdF nAsk (spRef K CP)) (cF : Cal K mg "_law_refused" fF fdF nAsk)
    (GW : FnOk P w K mg base CX0 2 fW fdW ["_law_codes_here", "_law_state", "_law_cell"] (spWr K)) (cW : Cal K mg "_law_wrong" fW fdW ["_law_codes_here", "_law_state", "_law_cell"])
    (GN : FnOk P w K mg base CX0 1 fN fdN ["_law_codes_here", "_law_state", "_law_thread"] (spLMay K)) (cN : Cal K mg "_law_may" fN fdN ["_law_codes_here", "_law_state", "_law_thread"])
    {cdv : Value} {A : Around} {outer : List Env} {s : Shared} {H : Hp} {E : XK} (hr : Room 8 (A.deeper (PyProof.Rows.envOfC "law" (defScope sLaw) s.heap.objs.size f cdv))) :
    ∃ t, PSs (cxOf CX0 P w K mg base nLaw "law" (defScope sLaw) f cdv A outer s H E).nox ((defBody sLaw).drop 5) t ∧ ∀ (Q : VK) (a r rf p : Addr) (sz : Nat) (mn : Int) (ns fs : List Int) (ds : List (List Cmd)) (xs : List V) (H6 : Hp),
      PG CP H6 p fs ds → SqL K H6 r xs → Paired (CodR K H6) xs (codesC ds) → SqL K H6 a (ns.map V.int) → mn = (ds.length : Int) → (∀ H', Q (.bl true) H') →
      t { nx := fun _ H' => Q .non H', rt := Q } [some (.ref a), some (.int (sz : Int)), some (.int mn), some (.ref r), some (.ref rf), some (.ref p), none, none, none, none, none, none, none] H6 := by
  have nd := scLaw.nd
  have hr2 : Room 2 _ := hr.mono (by decide)
  obtain ⟨t0, p0, q0⟩ := turn_ok (P := P) (w := w) (base := base) (K := K) (f := f) B GB cB GM cM GR cR GF cF GW cW GN cN (cdv := cdv) (A := A) (outer := outer) (s := s) (H := H) (E := E) hr
  obtain ⟨t8, p8, q8⟩ := end_ok (P := P) (w := w) (base := base) (K := K) (f := f) B GB cB GM cM GR cR GF cF GW cW GN cN (cdv := cdv) (A := A) (outer := outer) (s := s) (H := H) (E := E) hr
  refine ⟨_, pss_cons (ps_set (i := 6) nd rfl (Or.inr rfl) (pe_call GB hr2 rfl cB.mgf cB.kp cB.b .nil pass0 (pa_cons (pv 5) pa_nil)))
      (pss_cons (ps_set (i := 7) nd rfl (Or.inl rfl) (pe_lst pa_nil))
      (pss_cons (ps_for PassesOwn.never rfl (pi_list (pe_op op_cat (pe_lst (pa_cons pe_int pa_nil)) (pe_slice sl_list (pv 0) (po_some pe_int) (po_some pe_int)))) (pg_name (i := 8) nd rfl (Or.inl rfl)) p0) p8)), ?_⟩
  intro Q a r rf p sz mn ns fs ds xs H6 hG hc6 PC6 hS6 mnl k
  refine seq_hide fun D' hD => ?_
  refine ⟨_, rfl, p, fs, ds, rfl, hG, fun v H7 s7 hv => hD _ _ ?_⟩
  refine seq_hide fun D' hD => ?_
  refine ⟨Nat.zero_le _, fun lsc nlsc => hD _ _ ?_⟩
  have sA0 : Same H7 (upd H7 lsc (.lst [])) := same_new nlsc
  have eA0 : upd H7 lsc (.lst []) lsc = some (.lst []) := upd_same
  generalize upd H7 lsc (.lst []) = HA0 at sA0 eA0
  dsimp only [gName]
  refine seq_hide fun D' hD => ?_
  refine ⟨(by show 1 ≤ sizeLine; decide), fun l0 n0 => ?_⟩
  have s0 : Same HA0 (upd HA0 l0 (.lst [V.int 0])) := same_new n0
  have e0 : upd HA0 l0 (.lst [V.int 0]) l0 = some (.lst [V.int 0]) := upd_same
  generalize upd HA0 l0 (.lst [V.int 0]) = HB0 at s0 e0
  refine ⟨_, rfl, 8, rfl, 48, rfl, a, _, rfl, (s7.trans (sA0.trans s0)).seq hS6, fun l8 n8 => ?_⟩
  obtain ⟨ms, ems, lms⟩ := cut_upto ns 8 48 (by decide)
  rw [show (8 : Int) = ((8 : Nat) : Int) from rfl, show (48 : Int) = ((48 : Nat) : Int) from rfl, ems]
  have s8 : Same HB0 (upd HB0 l8 (.lst (ms.map V.int))) := same_new n8
  have e8 : upd HB0 l8 (.lst (ms.map V.int)) l8 = some (.lst (ms.map V.int)) := upd_same
  generalize upd HB0 l8 (.lst (ms.map V.int)) = HC0 at s8 e8
  refine ⟨l0, l8, _, _, rfl, rfl, s8 _ _ e0, e8, by rw [List.length_map, sizeLine_eq]; show 1 + ms.length ≤ _; omega, fun a8 na8 => ?_⟩
  have s9 : Same HC0 (upd HC0 a8 (.lst ([V.int 0] ++ ms.map V.int))) := same_new na8
  have e9 : upd HC0 a8 (.lst ([V.int 0] ++ ms.map V.int)) a8 = some (.lst ((0 :: ms).map V.int)) := upd_same
  have escC := s8 _ _ (s0 _ _ eA0)
  have na : a8 ≠ lsc := fun z => by rw [z, escC] at na8; cases na8
  have esc8 := s9 _ _ escC
  have s78 := sA0.trans (s0.trans (s8.trans s9))
  generalize upd HC0 a8 (.lst ([V.int 0] ++ ms.map V.int)) = H8 at s9 e9 esc8 s78
  refine ⟨a8, rfl, ⟨_, SqL.of e9⟩, for_list (K := K) (a := a8) (xs := (0 :: ms).map V.int) (JL K ds fs H7 a r rf p lsc a8 sz mn (0 :: ms))
    ⟨v, _, [], [], none, none, none, none, none, rfl, s78, e9, esc8, hv.same s78, .nil, Nat.le_refl _⟩ (fun i σ H9 _ ⟨_, _, _, _, _, _, _, _, _, _, _, e, _⟩ => SqL.of e) ?_ ?_⟩
  · rintro i x σ H9 hx ⟨v, st, ts, dd, v8, v9, v10, v11, v12, rfl, s79, e9, esc, hv, hRn, lts⟩
    have hi60 : i < 60 := by
      have := (List.getElem?_eq_some_iff.mp hx).1
      rw [List.length_map, List.length_cons] at this
      omega
    obtain ⟨cl, rfl⟩ : ∃ cl : Int, x = .int cl := by
      rw [List.getElem?_map] at hx
      obtain ⟨cl, _, e⟩ := Option.map_eq_some_iff.mp hx
      exact ⟨cl, e.symm⟩
    exact q0 _ a r rf p lsc a8 sz mn cl (0 :: ms) fs i ds xs v st ts dd _ _ _ _ H6 H7 H9 hG hc6 PC6 mnl s7 nlsc na hi60 s79 e9 esc hv hRn lts (fun _ _ h => h)
  · rintro σ H9 ⟨v, st, ts, dd, v8, v9, v10, v11, v12, rfl, s79, e9, esc, hv, hRn, lts⟩
    rw [List.length_map, List.length_cons] at lts
    exact hD _ _ (q8 Q a r rf p lsc sz mn fs ds xs v st ts dd _ _ _ _ _ H6 H9 hG hc6 PC6 mnl (s7.trans s79) esc hv hRn (by omega) k)
theorem ok_law {f CP fC fD fS fI fB fM fR fF fW fN : Addr} {fd fdC fdD fdS fdI fdB fdM fdR fdF fdW fdN : FuncData} (F : Fun K "law" "law" sLaw f fd) (B : TxB mg) (R : TxtG K mg CP)
    (GC : FnOk P w K mg base CX0 1 fC fdC ["_law_script", "_law_k"] (spCell K)) (cC : Cal K mg "_law_cell_at" fC fdC ["_law_script", "_law_k"])
    (GD : FnOk P w K mg base CX0 3 fD fdD ["_law_script", "_law_many", "_law_size"] (spCodes K)) (cD : Cal K mg "_law_codes" fD fdD ["_law_script", "_law_many", "_law_size"])
    (GS : FnOk P w K mg base CX0 2 fS fdS ["_law_script", "_law_size"] (spFs K)) (cS : Cal K mg "_law_firsts" fS fdS ["_law_script", "_law_size"])
    (GI : FnOk P w K mg base CX0 4 fI fdI ["self", "values", "codes"] (spProg K CP)) (bI : Binds K fdI ["self", "values", "codes"] []) (M : Mk K CP fI)
    (GB : FnOk P w K mg base CX0 2 fB fdB ["program"] (spBegin K CP)) (cB : Cal K mg "begin" fB fdB ["program"])
    (GM : FnOk P w K mg base CX0 5 fM fdM ["program", "state", "thread"] (spMoved K CP)) (cM : Cal K mg "moved" fM fdM ["program", "state", "thread"])
    (GR : FnOk P w K mg base CX0 6 fR fdR ["program", "schedule"] (spRun K CP)) (cR : Cal K mg "run" fR fdR ["program", "schedule"])
    (GF : FnOk P w K mg base CX0 8 fF fdF nAsk (spRef K CP)) (cF : Cal K mg "_law_refused" fF fdF nAsk)
    (GW : FnOk P w K mg base CX0 2 fW fdW ["_law_codes_here", "_law_state", "_law_cell"] (spWr K)) (cW : Cal K mg "_law_wrong" fW fdW ["_law_codes_here", "_law_state", "_law_cell"])
    (GN : FnOk P w K mg base CX0 1 fN fdN ["_law_codes_here", "_law_state", "_law_thread"] (spLMay K)) (cN : Cal K mg "_law_may" fN fdN ["_law_codes_here", "_law_state", "_law_thread"]) :
    FnOk P w K mg base CX0 9 f fd ["_law_script"] (spLaw K) := by
  refine F.ok scLaw (fun vs H Q E h => ?_) (fun cdv A outer s H vs Q E hr h => ?_)
  · obtain ⟨a, ns, rfl, _⟩ := h
    rfl
  · obtain ⟨a, ns, rfl, hS, hlen, k⟩ := h
    have nd := scLaw.nd
    have hr1 : Room 1 _ := hr.mono (by decide)
    have hr2 : Room 2 _ := hr.mono (by decide)
    have hr3 : Room 3 _ := hr.mono (by decide)
    have hr5 : Room 5 _ := hr.mono (by decide)
    have hu := hu64P hr
    obtain ⟨t6, p6, q6⟩ := tail_ok (P := P) (w := w) (base := base) (K := K) (f := f) B GB cB GM cM GR cR GF cF GW cW GN cN (cdv := cdv) (A := A) (outer := outer) (s := s) (H := H) (E := E) hr
    refine ⟨_, pss_cons (ps_set (i := 1) nd rfl (Or.inl rfl) (pe_op op_add pe_int (pe_op op_mod (pe_call GC hr1 rfl cC.mgf cC.kp cC.b .nil pass0 (pa_cons (pv 0) (pa_cons pe_int pa_nil))) pe_int)))
      (pss_cons (ps_set (i := 2) nd rfl (Or.inl rfl) (pe_op op_add pe_int (pe_op op_mod (pe_op op_fdiv (pe_call GC hr1 rfl cC.mgf cC.kp cC.b .nil pass0 (pa_cons (pv 0) (pa_cons pe_int pa_nil))) pe_int) pe_int)))
      (pss_cons (ps_set (i := 3) nd rfl (Or.inr rfl) (pe_call GD hr3 rfl cD.mgf cD.kp cD.b .nil pass0 (pa_cons (pv 0) (pa_cons (pv 2) (pa_cons (pv 1) pa_nil)))))
      (pss_cons (ps_set (i := 4) nd rfl (Or.inl rfl) (pe_call GS hr2 rfl cS.mgf cS.kp cS.b .nil pass0 (pa_cons (pv 0) (pa_cons (pv 1) pa_nil))))
      (pss_cons (ps_set (i := 5) nd rfl (Or.inr rfl) (pe_make M GI hr5 rfl R.mgG bI .nil pass0 (pa_cons (pe_callTy call_list_of rfl B.lst bList (pa_cons (pv 4) pa_nil)) (pa_cons (pe_comp (N := ["_law_lines"]) (nt := 1) (fr := []) (te := tCB (rLstO K) (tCons (tVar 0) tNil)) rfl
          (.of (XN := nLaw) (osc := defScope sLaw) rfl rfl rfl (by decide +kernel) (by decide +kernel) (by decide +kernel) rfl (by decide +kernel)) (pi_list (pv 3)) (fun _ _ _ _ _ _ => ⟨pg_name (i := 0) ndLi rfl (Or.inl rfl) (Or.inr rfl), pif_nil, pe_callTy call_lstO rfl B.lst bList (pa_cons (pv 0) pa_nil)⟩)) pa_nil)))) p6)))), ?_⟩
    refine seq_hide fun D' hD => ?_
    refine ⟨_, rfl, a, 0, ns, rfl, hS, by decide, _, _, rfl, rfl, (by show (0 : Int) < 4; decide), _, _, rfl, rfl, hD _ _ ?_⟩
    refine seq_hide fun D' hD => ?_
    refine ⟨_, rfl, a, 0, ns, rfl, hS, by decide, _, _, rfl, rfl, ⟨by decide, by decide⟩, _, _, rfl, rfl, (by show (0 : Int) < 3; decide), _, _, rfl, rfl, hD _ _ ?_⟩
    dsimp only
    generalize ns.getD (0 : Int).toNat 0 = first
    obtain ⟨sz, esz, z1, z4⟩ : ∃ sz : Nat, 1 + first % 4 = (sz : Int) ∧ 1 ≤ sz ∧ sz ≤ 4 := ⟨(1 + first % 4).toNat, by omega, by omega, by omega⟩
    obtain ⟨mn, emn, m1, m3⟩ : ∃ mn : Int, 1 + first / 4 % 3 = mn ∧ 1 ≤ mn ∧ mn ≤ 3 := ⟨_, rfl, by omega, by omega⟩
    rw [esz, emn]
    refine seq_hide fun D' hD => ?_
    refine ⟨_, rfl, _, rfl, _, rfl, a, mn, (sz : Int), ns, rfl, hS, m1, m3, by omega, by omega, fun r xs cs H1 s1 nr er PL fx lc l8 ok => hD _ _ ?_⟩
    refine seq_hide fun D' hD => ?_
    refine ⟨_, rfl, _, rfl, a, sz, ns, rfl, s1.seq hS, z4, fun rf fs H2 s2 nrf erf lf => hD _ _ ?_⟩
    have okG : ∀ ls ∈ cs, ∀ l ∈ ls, okLine (cs.length : Int) (fs.length : Int) l = true := fun ls h l hl => by rw [lc, lf]; exact ok ls h l hl
    have G : GoodP fs cs := ⟨by omega, by omega, by omega, by omega, l8, okG⟩
    obtain ⟨ds, eds, okd⟩ := cods_of okG
    have hS2 := (s1.trans s2).seq hS
    have er2 := s2 _ _ er
    have PC : Paired (CodR K H2) xs cs := newLs_cod (newLs_same s2 PL)
    have hxl := RC.Paired.len PC
    clear s1 s2 PL er nr nrf ok hS
    refine ⟨_, rfl, rf, _, rfl, .inl (SqL.of erf), fun a1 na1 => ?_⟩
    have s3 : Same H2 (upd H2 a1 (.lst (fs.map V.int))) := same_new na1
    have ea1 : upd H2 a1 (.lst (fs.map V.int)) a1 = some (.lst (fs.map V.int)) := upd_same
    generalize upd H2 a1 (.lst (fs.map V.int)) = H3 at s3 ea1
    dsimp only [tCons, tNil]
    rw [tComp_iff]
    refine ⟨_, rfl, r, rfl, ⟨_, SqL.of (s3 _ _ er2)⟩, comp_rel NewL cs (by rw [sizeLine_eq]; have := G.c3; omega) (SqL.of (s3 _ _ er2)) hxl (fun _ _ _ _ => NewL.m1) (fun _ _ _ _ _ _ => NewL.m2) (fun i x ls H' Qe hx hb s' q => ?_) (fun D ys H4 hD s4 eD hP4 fy nDy => ?_)⟩
    · obtain ⟨ls', els, c, us, rfl, hu', hl⟩ := RC.Paired.get PC hx
      rw [hb] at els
      cases els
      have s3' := s3.trans s'
      exact ⟨_, rfl, c, us, rfl, .inl (s3'.seq hu'), fun l nl => q _ _ (same_new nl) ⟨l, us, rfl, upd_same, LinesAt.same (s3'.trans (same_new nl)) hl⟩ (fun c e => by cases e; exact nl)⟩
    refine fun p dx np ndx _ => prog_made np ndx (SqL.of (s4 _ _ ea1)) (SqL.of eD) (newLs_cod hP4) G fun H6 s6 hP6 => ⟨rfl, ?_⟩
    dsimp only [gName]
    have s26 := s3.trans (s4.trans s6)
    have lds : ds.length = cs.length := by rw [← eds, codesC_len]
    have hG : PG CP H6 p fs ds := ⟨by rw [eds]; exact hP6, by rw [lds]; exact okd, by rw [lds]; exact G.c1, by rw [lds]; exact G.c3, fun d hd => by
      have := G.l8 (linesC d) (by rw [← eds]; exact List.mem_map.mpr ⟨d, hd, rfl⟩)
      unfold linesC at this
      rwa [List.length_map] at this, G.f4⟩
    have PC6 : Paired (CodR K H6) xs (codesC ds) := by rw [eds]; exact codRs_same s26 PC
    have hc6 : SqL K H6 r xs := SqL.of (s26 _ _ er2)
    have hS6 := s26.seq hS2
    exact q6 Q a r rf p sz mn ns fs ds xs H6 hG hc6 PC6 hS6 (by rw [lds]; omega) k
end
end K
namespace L2
open PySem
section
variable {K : PySem.W.Frag} {x qual : Str} {st : Stmt} {f : Addr} {fd : FuncData}
theorem Fun.b1 {p0 : Str} (F : Fun K x qual st f fd) (h : ∀ (kV doc pm : Value) (an : Option Addr) (cdv ct : Value) (u0 : Value), bindArgs (PySem.W.fnOf x qual (defArgs st) (defBody st) (defScope st) .none kV doc pm an cdv ct) ⟨[u0], []⟩ = pure ([p0].zip [u0])) : Binds K fd [p0] [] :=
  F.binds fun kV doc pm an cdv ct us hl => match us, hl with | [u0], _ => h kV doc pm an cdv ct u0
theorem Fun.b2 {p0 p1 : Str} (F : Fun K x qual st f fd) (h : ∀ (kV doc pm : Value) (an : Option Addr) (cdv ct : Value) (u0 u1 : Value), bindArgs (PySem.W.fnOf x qual (defArgs st) (defBody st) (defScope st) .none kV doc pm an cdv ct) ⟨[u0, u1], []⟩ = pure ([p0, p1].zip [u0, u1])) : Binds K fd [p0, p1] [] :=
  F.binds fun kV doc pm an cdv ct us hl => match us, hl with | [u0, u1], _ => h kV doc pm an cdv ct u0 u1
theorem Fun.b3 {p0 p1 p2 : Str} (F : Fun K x qual st f fd) (h : ∀ (kV doc pm : Value) (an : Option Addr) (cdv ct : Value) (u0 u1 u2 : Value), bindArgs (PySem.W.fnOf x qual (defArgs st) (defBody st) (defScope st) .none kV doc pm an cdv ct) ⟨[u0, u1, u2], []⟩ = pure ([p0, p1, p2].zip [u0, u1, u2])) : Binds K fd [p0, p1, p2] [] :=
  F.binds fun kV doc pm an cdv ct us hl => match us, hl with | [u0, u1, u2], _ => h kV doc pm an cdv ct u0 u1 u2
theorem Fun.b4 {p0 p1 p2 p3 : Str} (F : Fun K x qual st f fd) (h : ∀ (kV doc pm : Value) (an : Option Addr) (cdv ct : Value) (u0 u1 u2 u3 : Value), bindArgs (PySem.W.fnOf x qual (defArgs st) (defBody st) (defScope st) .none kV doc pm an cdv ct) ⟨[u0, u1, u2, u3], []⟩ = pure ([p0, p1, p2, p3].zip [u0, u1, u2, u3])) : Binds K fd [p0, p1, p2, p3] [] :=
  F.binds fun kV doc pm an cdv ct us hl => match us, hl with | [u0, u1, u2, u3], _ => h kV doc pm an cdv ct u0 u1 u2 u3
end
end L2
namespace K
open PySem L2 RC
theorem all_mk {l : PySem.W.OpenLaw} {w : World} {K : PySem.W.Frag} {h : Heap} {mg : Str → Option Value} {fa : Addr} (X : K.In h) (G : h.Ns mainGlobals mg) (hfa : mg "law" = some (.ref fa))
    {od_aS od_aT : Option Addr} {nn_aS nn_aT : Nat} {sl_aS sl_aT : Array (Option Value)} {t_aS0 t_aS1 t_aT0 t_aT1 : Tok} {aS aT : Addr} {ti_OWN_NAMES ti_LOCKS ti_MOST_LINES ti_MOST_NAMES ti_MOST_THREADS : Tok} {aP q0 q1 q2 q3 q4 q5 q6 q7 : Addr} {nP nq0 nq1 nq2 nq3 nq4 nq5 nq6 nq7 : Nat} {tq0 tq1 tq2 tq3 tq4 tq5 tq6 tq7 tq0_0 tq0_1 tq1_0 tq1_1 tq2_0 tq2_1 tq2_2 tq2_3 tq3_0 tq3_1 tq3_2 tq3_3 tq4_0 tq5_0 tq6_0 tq7_0 : Tok} {oq0 oq1 oq2 oq3 oq4 oq5 oq6 oq7 : Option Addr} {sq0 sq1 sq2 sq3 sq4 sq5 sq6 sq7 : Array (Option Value)}  {CN CE C1 C2 C3 C4 C5 C6 C7 : Addr} {od_m_CP_init an_m_CP_init od_m_CP_first_values an_m_CP_first_values od_m_CP_code an_m_CP_code od_m_CP_line an_m_CP_line od_g_limits_of an_g_limits_of od_g_is_value an_g_is_value od_g_is_part an_g_is_part od_g_is_line an_g_is_line od_g_begin an_g_begin od_g_ended an_g_ended od_g_next_line an_g_next_line od_g_lets an_g_lets od_g_may_move an_g_may_move od_g_put an_g_put od_g_value_of an_g_value_of od_g_is_so an_g_is_so od_g_reckoned an_g_reckoned od_g_number_behind an_g_number_behind od_g_own_behind an_g_own_behind od_g_values_behind an_g_values_behind od_g_holders_behind an_g_holders_behind od_g_awake_behind an_g_awake_behind od_g_moved an_g_moved od_g_deed_of an_g_deed_of od_g_run an_g_run od_g_law_cell_at an_g_law_cell_at od_g_law_value an_g_law_value od_g_law_line an_g_law_line od_g_law_codes an_g_law_codes od_g_law_firsts an_g_law_firsts od_g_law_may an_g_law_may od_g_law_asked an_g_law_asked od_g_law_refused an_g_law_refused od_g_law_wrong an_g_law_wrong od_g_law an_g_law : Option Addr} {sl_m_CP_init sl_m_CP_first_values sl_m_CP_code sl_m_CP_line sl_g_limits_of sl_g_is_value sl_g_is_part sl_g_is_line sl_g_begin sl_g_ended sl_g_next_line sl_g_lets sl_g_may_move sl_g_put sl_g_value_of sl_g_is_so sl_g_reckoned sl_g_number_behind sl_g_own_behind sl_g_values_behind sl_g_holders_behind sl_g_awake_behind sl_g_moved sl_g_deed_of sl_g_run sl_g_law_cell_at sl_g_law_value sl_g_law_line sl_g_law_codes sl_g_law_firsts sl_g_law_may sl_g_law_asked sl_g_law_refused sl_g_law_wrong sl_g_law : Array (Option Value)} {oc_m_CP_init kV_m_CP_init dc_m_CP_init pm_m_CP_init cd_m_CP_init ct_m_CP_init oc_m_CP_first_values kV_m_CP_first_values dc_m_CP_first_values pm_m_CP_first_values cd_m_CP_first_values ct_m_CP_first_values oc_m_CP_code kV_m_CP_code dc_m_CP_code pm_m_CP_code cd_m_CP_code ct_m_CP_code oc_m_CP_line kV_m_CP_line dc_m_CP_line pm_m_CP_line cd_m_CP_line ct_m_CP_line oc_g_limits_of kV_g_limits_of dc_g_limits_of pm_g_limits_of cd_g_limits_of ct_g_limits_of oc_g_is_value kV_g_is_value dc_g_is_value pm_g_is_value cd_g_is_value ct_g_is_value oc_g_is_part kV_g_is_part dc_g_is_part pm_g_is_part cd_g_is_part ct_g_is_part oc_g_is_line kV_g_is_line dc_g_is_line pm_g_is_line cd_g_is_line ct_g_is_line oc_g_begin kV_g_begin dc_g_begin pm_g_begin cd_g_begin ct_g_begin oc_g_ended kV_g_ended dc_g_ended pm_g_ended cd_g_ended ct_g_ended oc_g_next_line kV_g_next_line dc_g_next_line pm_g_next_line cd_g_next_line ct_g_next_line oc_g_lets kV_g_lets dc_g_lets pm_g_lets cd_g_lets ct_g_lets oc_g_may_move kV_g_may_move dc_g_may_move pm_g_may_move cd_g_may_move ct_g_may_move oc_g_put kV_g_put dc_g_put pm_g_put cd_g_put ct_g_put oc_g_value_of kV_g_value_of dc_g_value_of pm_g_value_of cd_g_value_of ct_g_value_of oc_g_is_so kV_g_is_so dc_g_is_so pm_g_is_so cd_g_is_so ct_g_is_so oc_g_reckoned kV_g_reckoned dc_g_reckoned pm_g_reckoned cd_g_reckoned ct_g_reckoned oc_g_number_behind kV_g_number_behind dc_g_number_behind pm_g_number_behind cd_g_number_behind ct_g_number_behind oc_g_own_behind kV_g_own_behind dc_g_own_behind pm_g_own_behind cd_g_own_behind ct_g_own_behind oc_g_values_behind kV_g_values_behind dc_g_values_behind pm_g_values_behind cd_g_values_behind ct_g_values_behind oc_g_holders_behind kV_g_holders_behind dc_g_holders_behind pm_g_holders_behind cd_g_holders_behind ct_g_holders_behind oc_g_awake_behind kV_g_awake_behind dc_g_awake_behind pm_g_awake_behind cd_g_awake_behind ct_g_awake_behind oc_g_moved kV_g_moved dc_g_moved pm_g_moved cd_g_moved ct_g_moved oc_g_deed_of kV_g_deed_of dc_g_deed_of pm_g_deed_of cd_g_deed_of ct_g_deed_of oc_g_run kV_g_run dc_g_run pm_g_run cd_g_run ct_g_run oc_g_law_cell_at kV_g_law_cell_at dc_g_law_cell_at pm_g_law_cell_at cd_g_law_cell_at ct_g_law_cell_at oc_g_law_value kV_g_law_value dc_g_law_value pm_g_law_value cd_g_law_value ct_g_law_value oc_g_law_line kV_g_law_line dc_g_law_line pm_g_law_line cd_g_law_line ct_g_law_line oc_g_law_codes kV_g_law_codes dc_g_law_codes pm_g_law_codes cd_g_law_codes ct_g_law_codes oc_g_law_firsts kV_g_law_firsts dc_g_law_firsts pm_g_law_firsts cd_g_law_firsts ct_g_law_firsts oc_g_law_may kV_g_law_may dc_g_law_may pm_g_law_may cd_g_law_may ct_g_law_may oc_g_law_asked kV_g_law_asked dc_g_law_asked pm_g_law_asked cd_g_law_asked ct_g_law_asked oc_g_law_refused kV_g_law_refused dc_g_law_refused pm_g_law_refused cd_g_law_refused ct_g_law_refused oc_g_law_wrong kV_g_law_wrong dc_g_law_wrong pm_g_law_wrong cd_g_law_wrong ct_g_law_wrong oc_g_law kV_g_law dc_g_law pm_g_law cd_g_law ct_g_law : Value} {CP f_m_CP_init f_m_CP_first_values f_m_CP_code f_m_CP_line f_g_limits_of f_g_is_value f_g_is_part f_g_is_line f_g_begin f_g_ended f_g_next_line f_g_lets f_g_may_move f_g_put f_g_value_of f_g_is_so f_g_reckoned f_g_number_behind f_g_own_behind f_g_values_behind f_g_holders_behind f_g_awake_behind f_g_moved f_g_deed_of f_g_run f_g_law_cell_at f_g_law_value f_g_law_line f_g_law_codes f_g_law_firsts f_g_law_may f_g_law_asked f_g_law_refused f_g_law_wrong f_g_law : Addr}
    (a_CP : PySem.W.nsIn K mainGlobals "Program" = some (some (.ref CP)))
    (a_m_CP_init : PySem.W.findIn K (.ref CP) "__init__" = some (some (.ref f_m_CP_init)))
    (i_m_CP_init : PySem.W.isFn K (.ref f_m_CP_init) = true)
    (l_m_CP_init : K.lookup f_m_CP_init = some ⟨oc_m_CP_init, od_m_CP_init, .func (PySem.W.fnOf "__init__" "Program.__init__" (defArgs s_Program___init__) (defBody s_Program___init__) (defScope s_Program___init__) .none kV_m_CP_init dc_m_CP_init pm_m_CP_init an_m_CP_init cd_m_CP_init ct_m_CP_init), sl_m_CP_init⟩)
    (c_m_CP_init : PySem.W.codeIn K cd_m_CP_init "Program.__init__" = true)
    (k_m_CP_init : PySem.W.keepIn K (.ref f_m_CP_init) = true)
    (a_m_CP_first_values : PySem.W.findIn K (.ref CP) "first_values" = some (some (.ref f_m_CP_first_values)))
    (i_m_CP_first_values : PySem.W.isFn K (.ref f_m_CP_first_values) = true)
    (l_m_CP_first_values : K.lookup f_m_CP_first_values = some ⟨oc_m_CP_first_values, od_m_CP_first_values, .func (PySem.W.fnOf "first_values" "Program.first_values" (defArgs s_Program_first_values) (defBody s_Program_first_values) (defScope s_Program_first_values) .none kV_m_CP_first_values dc_m_CP_first_values pm_m_CP_first_values an_m_CP_first_values cd_m_CP_first_values ct_m_CP_first_values), sl_m_CP_first_values⟩)
    (c_m_CP_first_values : PySem.W.codeIn K cd_m_CP_first_values "Program.first_values" = true)
    (k_m_CP_first_values : PySem.W.keepIn K (.ref f_m_CP_first_values) = true)
    (a_m_CP_code : PySem.W.findIn K (.ref CP) "code" = some (some (.ref f_m_CP_code)))
    (i_m_CP_code : PySem.W.isFn K (.ref f_m_CP_code) = true)
    (l_m_CP_code : K.lookup f_m_CP_code = some ⟨oc_m_CP_code, od_m_CP_code, .func (PySem.W.fnOf "code" "Program.code" (defArgs s_Program_code) (defBody s_Program_code) (defScope s_Program_code) .none kV_m_CP_code dc_m_CP_code pm_m_CP_code an_m_CP_code cd_m_CP_code ct_m_CP_code), sl_m_CP_code⟩)
    (c_m_CP_code : PySem.W.codeIn K cd_m_CP_code "Program.code" = true)
    (k_m_CP_code : PySem.W.keepIn K (.ref f_m_CP_code) = true)
    (a_m_CP_line : PySem.W.findIn K (.ref CP) "line" = some (some (.ref f_m_CP_line)))
    (i_m_CP_line : PySem.W.isFn K (.ref f_m_CP_line) = true)
    (l_m_CP_line : K.lookup f_m_CP_line = some ⟨oc_m_CP_line, od_m_CP_line, .func (PySem.W.fnOf "line" "Program.line" (defArgs s_Program_line) (defBody s_Program_line) (defScope s_Program_line) .none kV_m_CP_line dc_m_CP_line pm_m_CP_line an_m_CP_line cd_m_CP_line ct_m_CP_line), sl_m_CP_line⟩)
    (c_m_CP_line : PySem.W.codeIn K cd_m_CP_line "Program.line" = true)
    (k_m_CP_line : PySem.W.keepIn K (.ref f_m_CP_line) = true)
    (a_g_limits_of : PySem.W.nsIn K mainGlobals "limits_of" = some (some (.ref f_g_limits_of)))
    (l_g_limits_of : K.lookup f_g_limits_of = some ⟨oc_g_limits_of, od_g_limits_of, .func (PySem.W.fnOf "limits_of" "limits_of" (defArgs s_limits_of) (defBody s_limits_of) (defScope s_limits_of) .none kV_g_limits_of dc_g_limits_of pm_g_limits_of an_g_limits_of cd_g_limits_of ct_g_limits_of), sl_g_limits_of⟩)
    (c_g_limits_of : PySem.W.codeIn K cd_g_limits_of "limits_of" = true)
    (k_g_limits_of : PySem.W.keepIn K (.ref f_g_limits_of) = true)
    (a_g_is_value : PySem.W.nsIn K mainGlobals "is_value" = some (some (.ref f_g_is_value)))
    (l_g_is_value : K.lookup f_g_is_value = some ⟨oc_g_is_value, od_g_is_value, .func (PySem.W.fnOf "is_value" "is_value" (defArgs s_is_value) (defBody s_is_value) (defScope s_is_value) .none kV_g_is_value dc_g_is_value pm_g_is_value an_g_is_value cd_g_is_value ct_g_is_value), sl_g_is_value⟩)
    (c_g_is_value : PySem.W.codeIn K cd_g_is_value "is_value" = true)
    (k_g_is_value : PySem.W.keepIn K (.ref f_g_is_value) = true)
    (a_g_is_part : PySem.W.nsIn K mainGlobals "is_part" = some (some (.ref f_g_is_part)))
    (l_g_is_part : K.lookup f_g_is_part = some ⟨oc_g_is_part, od_g_is_part, .func (PySem.W.fnOf "is_part" "is_part" (defArgs s_is_part) (defBody s_is_part) (defScope s_is_part) .none kV_g_is_part dc_g_is_part pm_g_is_part an_g_is_part cd_g_is_part ct_g_is_part), sl_g_is_part⟩)
    (c_g_is_part : PySem.W.codeIn K cd_g_is_part "is_part" = true)
    (k_g_is_part : PySem.W.keepIn K (.ref f_g_is_part) = true)
    (a_g_is_line : PySem.W.nsIn K mainGlobals "is_line" = some (some (.ref f_g_is_line)))
    (l_g_is_line : K.lookup f_g_is_line = some ⟨oc_g_is_line, od_g_is_line, .func (PySem.W.fnOf "is_line" "is_line" (defArgs s_is_line) (defBody s_is_line) (defScope s_is_line) .none kV_g_is_line dc_g_is_line pm_g_is_line an_g_is_line cd_g_is_line ct_g_is_line), sl_g_is_line⟩)
    (c_g_is_line : PySem.W.codeIn K cd_g_is_line "is_line" = true)
    (k_g_is_line : PySem.W.keepIn K (.ref f_g_is_line) = true)
    (a_g_begin : PySem.W.nsIn K mainGlobals "begin" = some (some (.ref f_g_begin)))
    (l_g_begin : K.lookup f_g_begin = some ⟨oc_g_begin, od_g_begin, .func (PySem.W.fnOf "begin" "begin" (defArgs s_begin) (defBody s_begin) (defScope s_begin) .none kV_g_begin dc_g_begin pm_g_begin an_g_begin cd_g_begin ct_g_begin), sl_g_begin⟩)
    (c_g_begin : PySem.W.codeIn K cd_g_begin "begin" = true)
    (k_g_begin : PySem.W.keepIn K (.ref f_g_begin) = true)
    (a_g_ended : PySem.W.nsIn K mainGlobals "ended" = some (some (.ref f_g_ended)))
    (l_g_ended : K.lookup f_g_ended = some ⟨oc_g_ended, od_g_ended, .func (PySem.W.fnOf "ended" "ended" (defArgs s_ended) (defBody s_ended) (defScope s_ended) .none kV_g_ended dc_g_ended pm_g_ended an_g_ended cd_g_ended ct_g_ended), sl_g_ended⟩)
    (c_g_ended : PySem.W.codeIn K cd_g_ended "ended" = true)
    (k_g_ended : PySem.W.keepIn K (.ref f_g_ended) = true)
    (a_g_next_line : PySem.W.nsIn K mainGlobals "next_line" = some (some (.ref f_g_next_line)))
    (l_g_next_line : K.lookup f_g_next_line = some ⟨oc_g_next_line, od_g_next_line, .func (PySem.W.fnOf "next_line" "next_line" (defArgs s_next_line) (defBody s_next_line) (defScope s_next_line) .none kV_g_next_line dc_g_next_line pm_g_next_line an_g_next_line cd_g_next_line ct_g_next_line), sl_g_next_line⟩)
    (c_g_next_line : PySem.W.codeIn K cd_g_next_line "next_line" = true)
    (k_g_next_line : PySem.W.keepIn K (.ref f_g_next_line) = true)
    (a_g_lets : PySem.W.nsIn K mainGlobals "lets" = some (some (.ref f_g_lets)))
    (l_g_lets : K.lookup f_g_lets = some ⟨oc_g_lets, od_g_lets, .func (PySem.W.fnOf "lets" "lets" (defArgs s_lets) (defBody s_lets) (defScope s_lets) .none kV_g_lets dc_g_lets pm_g_lets an_g_lets cd_g_lets ct_g_lets), sl_g_lets⟩)
    (c_g_lets : PySem.W.codeIn K cd_g_lets "lets" = true)
    (k_g_lets : PySem.W.keepIn K (.ref f_g_lets) = true)
    (a_g_may_move : PySem.W.nsIn K mainGlobals "may_move" = some (some (.ref f_g_may_move)))
    (l_g_may_move : K.lookup f_g_may_move = some ⟨oc_g_may_move, od_g_may_move, .func (PySem.W.fnOf "may_move" "may_move" (defArgs s_may_move) (defBody s_may_move) (defScope s_may_move) .none kV_g_may_move dc_g_may_move pm_g_may_move an_g_may_move cd_g_may_move ct_g_may_move), sl_g_may_move⟩)
    (c_g_may_move : PySem.W.codeIn K cd_g_may_move "may_move" = true)
    (k_g_may_move : PySem.W.keepIn K (.ref f_g_may_move) = true)
    (a_g_put : PySem.W.nsIn K mainGlobals "put" = some (some (.ref f_g_put)))
    (l_g_put : K.lookup f_g_put = some ⟨oc_g_put, od_g_put, .func (PySem.W.fnOf "put" "put" (defArgs s_put) (defBody s_put) (defScope s_put) .none kV_g_put dc_g_put pm_g_put an_g_put cd_g_put ct_g_put), sl_g_put⟩)
    (c_g_put : PySem.W.codeIn K cd_g_put "put" = true)
    (k_g_put : PySem.W.keepIn K (.ref f_g_put) = true)
    (a_g_value_of : PySem.W.nsIn K mainGlobals "value_of" = some (some (.ref f_g_value_of)))
    (l_g_value_of : K.lookup f_g_value_of = some ⟨oc_g_value_of, od_g_value_of, .func (PySem.W.fnOf "value_of" "value_of" (defArgs s_value_of) (defBody s_value_of) (defScope s_value_of) .none kV_g_value_of dc_g_value_of pm_g_value_of an_g_value_of cd_g_value_of ct_g_value_of), sl_g_value_of⟩)
    (c_g_value_of : PySem.W.codeIn K cd_g_value_of "value_of" = true)
    (k_g_value_of : PySem.W.keepIn K (.ref f_g_value_of) = true)
    (a_g_is_so : PySem.W.nsIn K mainGlobals "is_so" = some (some (.ref f_g_is_so)))
    (l_g_is_so : K.lookup f_g_is_so = some ⟨oc_g_is_so, od_g_is_so, .func (PySem.W.fnOf "is_so" "is_so" (defArgs s_is_so) (defBody s_is_so) (defScope s_is_so) .none kV_g_is_so dc_g_is_so pm_g_is_so an_g_is_so cd_g_is_so ct_g_is_so), sl_g_is_so⟩)
    (c_g_is_so : PySem.W.codeIn K cd_g_is_so "is_so" = true)
    (k_g_is_so : PySem.W.keepIn K (.ref f_g_is_so) = true)
    (a_g_reckoned : PySem.W.nsIn K mainGlobals "reckoned" = some (some (.ref f_g_reckoned)))
    (l_g_reckoned : K.lookup f_g_reckoned = some ⟨oc_g_reckoned, od_g_reckoned, .func (PySem.W.fnOf "reckoned" "reckoned" (defArgs s_reckoned) (defBody s_reckoned) (defScope s_reckoned) .none kV_g_reckoned dc_g_reckoned pm_g_reckoned an_g_reckoned cd_g_reckoned ct_g_reckoned), sl_g_reckoned⟩)
    (c_g_reckoned : PySem.W.codeIn K cd_g_reckoned "reckoned" = true)
    (k_g_reckoned : PySem.W.keepIn K (.ref f_g_reckoned) = true)
    (a_g_number_behind : PySem.W.nsIn K mainGlobals "number_behind" = some (some (.ref f_g_number_behind)))
    (l_g_number_behind : K.lookup f_g_number_behind = some ⟨oc_g_number_behind, od_g_number_behind, .func (PySem.W.fnOf "number_behind" "number_behind" (defArgs s_number_behind) (defBody s_number_behind) (defScope s_number_behind) .none kV_g_number_behind dc_g_number_behind pm_g_number_behind an_g_number_behind cd_g_number_behind ct_g_number_behind), sl_g_number_behind⟩)
    (c_g_number_behind : PySem.W.codeIn K cd_g_number_behind "number_behind" = true)
    (k_g_number_behind : PySem.W.keepIn K (.ref f_g_number_behind) = true)
    (a_g_own_behind : PySem.W.nsIn K mainGlobals "own_behind" = some (some (.ref f_g_own_behind)))
    (l_g_own_behind : K.lookup f_g_own_behind = some ⟨oc_g_own_behind, od_g_own_behind, .func (PySem.W.fnOf "own_behind" "own_behind" (defArgs s_own_behind) (defBody s_own_behind) (defScope s_own_behind) .none kV_g_own_behind dc_g_own_behind pm_g_own_behind an_g_own_behind cd_g_own_behind ct_g_own_behind), sl_g_own_behind⟩)
    (c_g_own_behind : PySem.W.codeIn K cd_g_own_behind "own_behind" = true)
    (k_g_own_behind : PySem.W.keepIn K (.ref f_g_own_behind) = true)
    (a_g_values_behind : PySem.W.nsIn K mainGlobals "values_behind" = some (some (.ref f_g_values_behind)))
    (l_g_values_behind : K.lookup f_g_values_behind = some ⟨oc_g_values_behind, od_g_values_behind, .func (PySem.W.fnOf "values_behind" "values_behind" (defArgs s_values_behind) (defBody s_values_behind) (defScope s_values_behind) .none kV_g_values_behind dc_g_values_behind pm_g_values_behind an_g_values_behind cd_g_values_behind ct_g_values_behind), sl_g_values_behind⟩)
    (c_g_values_behind : PySem.W.codeIn K cd_g_values_behind "values_behind" = true)
    (k_g_values_behind : PySem.W.keepIn K (.ref f_g_values_behind) = true)
    (a_g_holders_behind : PySem.W.nsIn K mainGlobals "holders_behind" = some (some (.ref f_g_holders_behind)))
    (l_g_holders_behind : K.lookup f_g_holders_behind = some ⟨oc_g_holders_behind, od_g_holders_behind, .func (PySem.W.fnOf "holders_behind" "holders_behind" (defArgs s_holders_behind) (defBody s_holders_behind) (defScope s_holders_behind) .none kV_g_holders_behind dc_g_holders_behind pm_g_holders_behind an_g_holders_behind cd_g_holders_behind ct_g_holders_behind), sl_g_holders_behind⟩)
    (c_g_holders_behind : PySem.W.codeIn K cd_g_holders_behind "holders_behind" = true)
    (k_g_holders_behind : PySem.W.keepIn K (.ref f_g_holders_behind) = true)
    (a_g_awake_behind : PySem.W.nsIn K mainGlobals "awake_behind" = some (some (.ref f_g_awake_behind)))
    (l_g_awake_behind : K.lookup f_g_awake_behind = some ⟨oc_g_awake_behind, od_g_awake_behind, .func (PySem.W.fnOf "awake_behind" "awake_behind" (defArgs s_awake_behind) (defBody s_awake_behind) (defScope s_awake_behind) .none kV_g_awake_behind dc_g_awake_behind pm_g_awake_behind an_g_awake_behind cd_g_awake_behind ct_g_awake_behind), sl_g_awake_behind⟩)
    (c_g_awake_behind : PySem.W.codeIn K cd_g_awake_behind "awake_behind" = true)
    (k_g_awake_behind : PySem.W.keepIn K (.ref f_g_awake_behind) = true)
    (a_g_moved : PySem.W.nsIn K mainGlobals "moved" = some (some (.ref f_g_moved)))
    (l_g_moved : K.lookup f_g_moved = some ⟨oc_g_moved, od_g_moved, .func (PySem.W.fnOf "moved" "moved" (defArgs s_moved) (defBody s_moved) (defScope s_moved) .none kV_g_moved dc_g_moved pm_g_moved an_g_moved cd_g_moved ct_g_moved), sl_g_moved⟩)
    (c_g_moved : PySem.W.codeIn K cd_g_moved "moved" = true)
    (k_g_moved : PySem.W.keepIn K (.ref f_g_moved) = true)
    (a_g_deed_of : PySem.W.nsIn K mainGlobals "deed_of" = some (some (.ref f_g_deed_of)))
    (l_g_deed_of : K.lookup f_g_deed_of = some ⟨oc_g_deed_of, od_g_deed_of, .func (PySem.W.fnOf "deed_of" "deed_of" (defArgs s_deed_of) (defBody s_deed_of) (defScope s_deed_of) .none kV_g_deed_of dc_g_deed_of pm_g_deed_of an_g_deed_of cd_g_deed_of ct_g_deed_of), sl_g_deed_of⟩)
    (c_g_deed_of : PySem.W.codeIn K cd_g_deed_of "deed_of" = true)
    (k_g_deed_of : PySem.W.keepIn K (.ref f_g_deed_of) = true)
    (a_g_run : PySem.W.nsIn K mainGlobals "run" = some (some (.ref f_g_run)))
    (l_g_run : K.lookup f_g_run = some ⟨oc_g_run, od_g_run, .func (PySem.W.fnOf "run" "run" (defArgs s_run) (defBody s_run) (defScope s_run) .none kV_g_run dc_g_run pm_g_run an_g_run cd_g_run ct_g_run), sl_g_run⟩)
    (c_g_run : PySem.W.codeIn K cd_g_run "run" = true)
    (k_g_run : PySem.W.keepIn K (.ref f_g_run) = true)
    (a_g_law_cell_at : PySem.W.nsIn K mainGlobals "_law_cell_at" = some (some (.ref f_g_law_cell_at)))
    (l_g_law_cell_at : K.lookup f_g_law_cell_at = some ⟨oc_g_law_cell_at, od_g_law_cell_at, .func (PySem.W.fnOf "_law_cell_at" "_law_cell_at" (defArgs sCell) (defBody sCell) (defScope sCell) .none kV_g_law_cell_at dc_g_law_cell_at pm_g_law_cell_at an_g_law_cell_at cd_g_law_cell_at ct_g_law_cell_at), sl_g_law_cell_at⟩)
    (c_g_law_cell_at : PySem.W.codeIn K cd_g_law_cell_at "_law_cell_at" = true)
    (k_g_law_cell_at : PySem.W.keepIn K (.ref f_g_law_cell_at) = true)
    (a_g_law_value : PySem.W.nsIn K mainGlobals "_law_value" = some (some (.ref f_g_law_value)))
    (l_g_law_value : K.lookup f_g_law_value = some ⟨oc_g_law_value, od_g_law_value, .func (PySem.W.fnOf "_law_value" "_law_value" (defArgs s__law_value) (defBody s__law_value) (defScope s__law_value) .none kV_g_law_value dc_g_law_value pm_g_law_value an_g_law_value cd_g_law_value ct_g_law_value), sl_g_law_value⟩)
    (c_g_law_value : PySem.W.codeIn K cd_g_law_value "_law_value" = true)
    (k_g_law_value : PySem.W.keepIn K (.ref f_g_law_value) = true)
    (a_g_law_line : PySem.W.nsIn K mainGlobals "_law_line" = some (some (.ref f_g_law_line)))
    (l_g_law_line : K.lookup f_g_law_line = some ⟨oc_g_law_line, od_g_law_line, .func (PySem.W.fnOf "_law_line" "_law_line" (defArgs s__law_line) (defBody s__law_line) (defScope s__law_line) .none kV_g_law_line dc_g_law_line pm_g_law_line an_g_law_line cd_g_law_line ct_g_law_line), sl_g_law_line⟩)
    (c_g_law_line : PySem.W.codeIn K cd_g_law_line "_law_line" = true)
    (k_g_law_line : PySem.W.keepIn K (.ref f_g_law_line) = true)
    (a_g_law_codes : PySem.W.nsIn K mainGlobals "_law_codes" = some (some (.ref f_g_law_codes)))
    (l_g_law_codes : K.lookup f_g_law_codes = some ⟨oc_g_law_codes, od_g_law_codes, .func (PySem.W.fnOf "_law_codes" "_law_codes" (defArgs s__law_codes) (defBody s__law_codes) (defScope s__law_codes) .none kV_g_law_codes dc_g_law_codes pm_g_law_codes an_g_law_codes cd_g_law_codes ct_g_law_codes), sl_g_law_codes⟩)
    (c_g_law_codes : PySem.W.codeIn K cd_g_law_codes "_law_codes" = true)
    (k_g_law_codes : PySem.W.keepIn K (.ref f_g_law_codes) = true)
    (a_g_law_firsts : PySem.W.nsIn K mainGlobals "_law_firsts" = some (some (.ref f_g_law_firsts)))
    (l_g_law_firsts : K.lookup f_g_law_firsts = some ⟨oc_g_law_firsts, od_g_law_firsts, .func (PySem.W.fnOf "_law_firsts" "_law_firsts" (defArgs s__law_firsts) (defBody s__law_firsts) (defScope s__law_firsts) .none kV_g_law_firsts dc_g_law_firsts pm_g_law_firsts an_g_law_firsts cd_g_law_firsts ct_g_law_firsts), sl_g_law_firsts⟩)
    (c_g_law_firsts : PySem.W.codeIn K cd_g_law_firsts "_law_firsts" = true)
    (k_g_law_firsts : PySem.W.keepIn K (.ref f_g_law_firsts) = true)
    (a_g_law_may : PySem.W.nsIn K mainGlobals "_law_may" = some (some (.ref f_g_law_may)))
    (l_g_law_may : K.lookup f_g_law_may = some ⟨oc_g_law_may, od_g_law_may, .func (PySem.W.fnOf "_law_may" "_law_may" (defArgs s__law_may) (defBody s__law_may) (defScope s__law_may) .none kV_g_law_may dc_g_law_may pm_g_law_may an_g_law_may cd_g_law_may ct_g_law_may), sl_g_law_may⟩)
    (c_g_law_may : PySem.W.codeIn K cd_g_law_may "_law_may" = true)
    (k_g_law_may : PySem.W.keepIn K (.ref f_g_law_may) = true)
    (a_g_law_asked : PySem.W.nsIn K mainGlobals "_law_asked" = some (some (.ref f_g_law_asked)))
    (l_g_law_asked : K.lookup f_g_law_asked = some ⟨oc_g_law_asked, od_g_law_asked, .func (PySem.W.fnOf "_law_asked" "_law_asked" (defArgs s__law_asked) (defBody s__law_asked) (defScope s__law_asked) .none kV_g_law_asked dc_g_law_asked pm_g_law_asked an_g_law_asked cd_g_law_asked ct_g_law_asked), sl_g_law_asked⟩)
    (c_g_law_asked : PySem.W.codeIn K cd_g_law_asked "_law_asked" = true)
    (k_g_law_asked : PySem.W.keepIn K (.ref f_g_law_asked) = true)
    (a_g_law_refused : PySem.W.nsIn K mainGlobals "_law_refused" = some (some (.ref f_g_law_refused)))
    (l_g_law_refused : K.lookup f_g_law_refused = some ⟨oc_g_law_refused, od_g_law_refused, .func (PySem.W.fnOf "_law_refused" "_law_refused" (defArgs sRef) (defBody sRef) (defScope sRef) .none kV_g_law_refused dc_g_law_refused pm_g_law_refused an_g_law_refused cd_g_law_refused ct_g_law_refused), sl_g_law_refused⟩)
    (c_g_law_refused : PySem.W.codeIn K cd_g_law_refused "_law_refused" = true)
    (k_g_law_refused : PySem.W.keepIn K (.ref f_g_law_refused) = true)
    (a_g_law_wrong : PySem.W.nsIn K mainGlobals "_law_wrong" = some (some (.ref f_g_law_wrong)))
    (l_g_law_wrong : K.lookup f_g_law_wrong = some ⟨oc_g_law_wrong, od_g_law_wrong, .func (PySem.W.fnOf "_law_wrong" "_law_wrong" (defArgs s__law_wrong) (defBody s__law_wrong) (defScope s__law_wrong) .none kV_g_law_wrong dc_g_law_wrong pm_g_law_wrong an_g_law_wrong cd_g_law_wrong ct_g_law_wrong), sl_g_law_wrong⟩)
    (c_g_law_wrong : PySem.W.codeIn K cd_g_law_wrong "_law_wrong" = true)
    (k_g_law_wrong : PySem.W.keepIn K (.ref f_g_law_wrong) = true)
    (a_g_law : PySem.W.nsIn K mainGlobals "law" = some (some (.ref f_g_law)))
    (l_g_law : K.lookup f_g_law = some ⟨oc_g_law, od_g_law, .func (PySem.W.fnOf "law" "law" (defArgs sLaw) (defBody sLaw) (defScope sLaw) .none kV_g_law dc_g_law pm_g_law an_g_law cd_g_law ct_g_law), sl_g_law⟩)
    (c_g_law : PySem.W.codeIn K cd_g_law "law" = true)
    (k_g_law : PySem.W.keepIn K (.ref f_g_law) = true)
    (n_aS : PySem.W.nsIn K mainGlobals "SIGNS" = some (some (.ref aS)))
    (l_aS : K.lookup aS = some ⟨.type "tuple", od_aS, .seq #[.str "+" t_aS0, .str "-" t_aS1] nn_aS, sl_aS⟩)
    (n_aT : PySem.W.nsIn K mainGlobals "TESTS" = some (some (.ref aT)))
    (l_aT : K.lookup aT = some ⟨.type "tuple", od_aT, .seq #[.str "==" t_aT0, .str "<" t_aT1] nn_aT, sl_aT⟩)
    (n_OWN_NAMES : PySem.W.nsIn K mainGlobals "OWN_NAMES" = some (some (.int 3 ti_OWN_NAMES)))
    (n_LOCKS : PySem.W.nsIn K mainGlobals "LOCKS" = some (some (.int 3 ti_LOCKS)))
    (n_MOST_LINES : PySem.W.nsIn K mainGlobals "MOST_LINES" = some (some (.int 8 ti_MOST_LINES)))
    (n_MOST_NAMES : PySem.W.nsIn K mainGlobals "MOST_NAMES" = some (some (.int 4 ti_MOST_NAMES)))
    (n_MOST_THREADS : PySem.W.nsIn K mainGlobals "MOST_THREADS" = some (some (.int 3 ti_MOST_THREADS)))
    (pg_CP : PySem.W.plainGet K CP Str.empty = true)
    (hd_CP : PySem.W.hasDictIn K CP = true)
    (po_CP : PySem.W.plainOver K CP = true)
    (sa_CP : PySem.W.findIn K (.ref CP) "__setattr__" = some (some (.builtin "object.__setattr__")))
    (mk_CP : PySem.W.makesIn K CP = true)
    (kc_CP : PySem.W.keepIn K (.ref CP) = true)
    (nf_CP_many : PySem.W.findIn K (.ref CP) "many" = some none)
    (nf_CP_names : PySem.W.findIn K (.ref CP) "names" = some none)
    (nf_CP_firsts : PySem.W.findIn K (.ref CP) "firsts" = some none)
    (nf_CP_codes : PySem.W.findIn K (.ref CP) "codes" = some none)
    (n_aP : PySem.W.nsIn K mainGlobals "PARTS" = some (some (.ref aP)))
    (l_aP : K.lookup aP = some ⟨.type "dict", none, .dict #[⟨PyData.keyHash w.params "read", .str "read" tq0, .ref q0⟩, ⟨PyData.keyHash w.params "write", .str "write" tq1, .ref q1⟩, ⟨PyData.keyHash w.params "set", .str "set" tq2, .ref q2⟩, ⟨PyData.keyHash w.params "skip", .str "skip" tq3, .ref q3⟩, ⟨PyData.keyHash w.params "take", .str "take" tq4, .ref q4⟩, ⟨PyData.keyHash w.params "give", .str "give" tq5, .ref q5⟩, ⟨PyData.keyHash w.params "fork", .str "fork" tq6, .ref q6⟩, ⟨PyData.keyHash w.params "wait", .str "wait" tq7, .ref q7⟩] nP, #[]⟩)
    (s_aP : (aP == sysModules) = false)
    (l_q0 : K.lookup q0 = some ⟨.type "tuple", oq0, .seq #[.str "own" tq0_0, .str "name" tq0_1] nq0, sq0⟩)
    (l_q1 : K.lookup q1 = some ⟨.type "tuple", oq1, .seq #[.str "name" tq1_0, .str "value" tq1_1] nq1, sq1⟩)
    (l_q2 : K.lookup q2 = some ⟨.type "tuple", oq2, .seq #[.str "own" tq2_0, .str "value" tq2_1, .str "sign" tq2_2, .str "value" tq2_3] nq2, sq2⟩)
    (l_q3 : K.lookup q3 = some ⟨.type "tuple", oq3, .seq #[.str "value" tq3_0, .str "test" tq3_1, .str "value" tq3_2, .str "count" tq3_3] nq3, sq3⟩)
    (l_q4 : K.lookup q4 = some ⟨.type "tuple", oq4, .seq #[.str "lock" tq4_0] nq4, sq4⟩)
    (l_q5 : K.lookup q5 = some ⟨.type "tuple", oq5, .seq #[.str "lock" tq5_0] nq5, sq5⟩)
    (l_q6 : K.lookup q6 = some ⟨.type "tuple", oq6, .seq #[.str "thread" tq6_0] nq6, sq6⟩)
    (l_q7 : K.lookup q7 = some ⟨.type "tuple", oq7, .seq #[.str "thread" tq7_0] nq7, sq7⟩)
    (x_N : PySem.W.nsIn K mainGlobals "NoMove" = some (some (.ref CN)))
    (x_E : PySem.W.nsIn K mainGlobals "RaceError" = some (some (.ref CE)))
    (x_1 : PySem.W.nsIn K mainGlobals "NoRow" = some (some (.ref C1)))
    (x_2 : PySem.W.nsIn K mainGlobals "NoWeaving" = some (some (.ref C2)))
    (x_3 : PySem.W.nsIn K mainGlobals "NoRace" = some (some (.ref C3)))
    (x_4 : PySem.W.nsIn K mainGlobals "NoText" = some (some (.ref C4)))
    (x_5 : PySem.W.nsIn K mainGlobals "TooGreat" = some (some (.ref C5)))
    (x_6 : PySem.W.nsIn K mainGlobals "NoProgram" = some (some (.ref C6)))
    (x_7 : PySem.W.nsIn K mainGlobals "NoWords" = some (some (.ref C7)))
    (x_exc : PySem.W.excIn K CN [.type "ValueError", .type "Exception", .type "BaseException", .type "object"] "ValueError.__new__" = true)
    (ga_CN : PySem.W.findIn K (.ref CN) "__getattribute__" = some (some (.builtin "BaseException.__getattribute__")))
    (gt_CN : PySem.W.findIn K (.ref CN) "__getattr__" = some none)
    (ca_CN : PySem.W.findIn K (.ref CN) "__class__" = some (some (.builtin "object.__class__")))
    (mo_CN : PySem.W.mroIn K CN (.type "object") = some true)
    (mb_CN : PySem.W.mroIn K CN (.type "BaseException") = some true)
    (ga_CE : PySem.W.findIn K (.ref CE) "__getattribute__" = some (some (.builtin "BaseException.__getattribute__")))
    (gt_CE : PySem.W.findIn K (.ref CE) "__getattr__" = some none)
    (ca_CE : PySem.W.findIn K (.ref CE) "__class__" = some (some (.builtin "object.__class__")))
    (mo_CE : PySem.W.mroIn K CE (.type "object") = some true)
    (mb_CE : PySem.W.mroIn K CE (.type "BaseException") = some true)
    (x_cg : PySem.W.specialIn K (.builtin "object.__class__") "__get__" = some (some (.builtin "getset_descriptor.__get__")))
    (x_ct : PySem.W.takesIn K (.builtin "object.__class__") = some true)
    (x_ty : PySem.W.typeIn K (.ref CE) = some (.type "type"))
    (x_up : PySem.W.mroIn K CN (.ref CE) = some true)
    (x_isV : PySem.W.kitOne K (.ref CN) (.type "ValueError") = some true)
    (x_k1 : PySem.W.kitOne K (.ref CN) (.ref C1) = some false)
    (x_k2 : PySem.W.kitOne K (.ref CN) (.ref C2) = some false)
    (x_k3 : PySem.W.kitOne K (.ref CN) (.ref C3) = some false)
    (x_k4 : PySem.W.kitOne K (.ref CN) (.ref C4) = some false)
    (x_k5 : PySem.W.kitOne K (.ref CN) (.ref C5) = some false)
    (x_k6 : PySem.W.kitOne K (.ref CN) (.ref C6) = some false)
    (x_k7 : PySem.W.kitOne K (.ref CN) (.ref C7) = some false)
    (z_len : PySem.W.nsIn K mainGlobals "len" = some none)
    (z_range : PySem.W.nsIn K mainGlobals "range" = some none)
    (z_isinstance : PySem.W.nsIn K mainGlobals "isinstance" = some none)
    (z_int : PySem.W.nsIn K mainGlobals "int" = some none)
    (z_bool : PySem.W.nsIn K mainGlobals "bool" = some none)
    (z_tuple : PySem.W.nsIn K mainGlobals "tuple" = some none)
    (z_list : PySem.W.nsIn K mainGlobals "list" = some none)
    (z_zip : PySem.W.nsIn K mainGlobals "zip" = some none)
    (z_all : PySem.W.nsIn K mainGlobals "all" = some none)
    (z_ValueError : PySem.W.nsIn K mainGlobals "ValueError" = some none) :
    ∃ fd : FuncData, (∀ (s : Shared) (v : Value), BindsTo s fd ⟨[v], []⟩ [("_law_script", v)]) ∧ ∀ base : Heap, K.In base → base.Ns mainGlobals mg → FnOk l.prog w K mg base CX0 9 fa fd ["_law_script"] (spLaw K) := by
  have e := hfa.symm.trans (PySem.W.mg_of X G a_g_law)
  cases e
  have B : TxB mg := ⟨PySem.W.mg_none_of X G z_len, PySem.W.mg_none_of X G z_range, PySem.W.mg_none_of X G z_isinstance, PySem.W.mg_none_of X G z_int, PySem.W.mg_none_of X G z_bool, PySem.W.mg_none_of X G z_tuple, PySem.W.mg_none_of X G z_list, PySem.W.mg_none_of X G z_zip, PySem.W.mg_none_of X G z_all⟩
  have T : TxtP l.prog w K mg aP aS aT := ⟨PySem.W.mg_of X G n_aP, ⟨q0, q1, q2, q3, q4, q5, q6, q7, kdic_of (ws := [("read", tq0, q0), ("write", tq1, q1), ("set", tq2, q2), ("skip", tq3, q3), ("take", tq4, q4), ("give", tq5, q5), ("fork", tq6, q6), ("wait", tq7, q7)]) s_aP l_aP (by show ([Sum.inr "read", Sum.inr "write", Sum.inr "set", Sum.inr "skip", Sum.inr "take", Sum.inr "give", Sum.inr "fork", Sum.inr "wait"] : List Key).Nodup; decide +kernel), fun H => .inr ⟨_, _, _, l_q0, rfl, rfl, (by show 2 ≤ sizeLine; decide), .cons ⟨_, rfl⟩ (.cons ⟨_, rfl⟩ .nil)⟩, fun H => .inr ⟨_, _, _, l_q1, rfl, rfl, (by show 2 ≤ sizeLine; decide), .cons ⟨_, rfl⟩ (.cons ⟨_, rfl⟩ .nil)⟩, fun H => .inr ⟨_, _, _, l_q2, rfl, rfl, (by show 4 ≤ sizeLine; decide), .cons ⟨_, rfl⟩ (.cons ⟨_, rfl⟩ (.cons ⟨_, rfl⟩ (.cons ⟨_, rfl⟩ .nil)))⟩, fun H => .inr ⟨_, _, _, l_q3, rfl, rfl, (by show 4 ≤ sizeLine; decide), .cons ⟨_, rfl⟩ (.cons ⟨_, rfl⟩ (.cons ⟨_, rfl⟩ (.cons ⟨_, rfl⟩ .nil)))⟩, fun H => .inr ⟨_, _, _, l_q4, rfl, rfl, (by show 1 ≤ sizeLine; decide), .cons ⟨_, rfl⟩ .nil⟩, fun H => .inr ⟨_, _, _, l_q5, rfl, rfl, (by show 1 ≤ sizeLine; decide), .cons ⟨_, rfl⟩ .nil⟩, fun H => .inr ⟨_, _, _, l_q6, rfl, rfl, (by show 1 ≤ sizeLine; decide), .cons ⟨_, rfl⟩ .nil⟩, fun H => .inr ⟨_, _, _, l_q7, rfl, rfl, (by show 1 ≤ sizeLine; decide), .cons ⟨_, rfl⟩ .nil⟩⟩, PySem.W.mg_of X G n_aS, fun H => .inr ⟨_, _, _, l_aS, rfl, rfl, (by show 2 ≤ sizeLine; decide), .cons ⟨_, rfl⟩ (.cons ⟨_, rfl⟩ .nil)⟩, PySem.W.mg_of X G n_aT, fun H => .inr ⟨_, _, _, l_aT, rfl, rfl, (by show 2 ≤ sizeLine; decide), .cons ⟨_, rfl⟩ (.cons ⟨_, rfl⟩ .nil)⟩, ⟨_, PySem.W.mg_of X G n_OWN_NAMES⟩, ⟨_, PySem.W.mg_of X G n_LOCKS⟩, ⟨_, PySem.W.mg_of X G n_MOST_LINES⟩, ⟨_, PySem.W.mg_of X G n_MOST_NAMES⟩, ⟨_, PySem.W.mg_of X G n_MOST_THREADS⟩⟩
  have R : TxtG K mg CP := ⟨⟨pg_CP, hd_CP, po_CP, sa_CP⟩, nf_CP_many, nf_CP_names, nf_CP_firsts, nf_CP_codes, PySem.W.mg_of X G a_CP⟩
  have TV : TxtV K mg CN := ⟨PySem.W.mg_of X G x_N, ⟨x_exc⟩⟩
  have e_CN : PySem.W.ExcCls K CN := ⟨ga_CN, gt_CN, ca_CN, x_cg, x_ct, mo_CN, mb_CN⟩
  have e_CE : PySem.W.ExcCls K CE := ⟨ga_CE, gt_CE, ca_CE, x_cg, x_ct, mo_CE, mb_CE⟩
  have TE : TxtE K mg CN CE := ⟨PySem.W.mg_of X G x_N, PySem.W.mg_of X G x_E, e_CN, e_CE, x_ty, x_up, PySem.W.mg_none_of X G z_ValueError, x_isV, ⟨_, PySem.W.mg_of X G x_1, x_k1⟩, ⟨_, PySem.W.mg_of X G x_2, x_k2⟩, ⟨_, PySem.W.mg_of X G x_3, x_k3⟩, ⟨_, PySem.W.mg_of X G x_4, x_k4⟩, ⟨_, PySem.W.mg_of X G x_5, x_k5⟩, ⟨_, PySem.W.mg_of X G x_6, x_k6⟩, ⟨_, PySem.W.mg_of X G x_7, x_k7⟩⟩
  have F_m_CP_init := fun_mk (st := s_Program___init__) l_m_CP_init c_m_CP_init k_m_CP_init
  have b_m_CP_init : Binds K _ ["self", "values", "codes"] [] := F_m_CP_init.b3 fun _ _ _ _ _ _ _ _ _ => rfl
  have F_m_CP_first_values := fun_mk (st := s_Program_first_values) l_m_CP_first_values c_m_CP_first_values k_m_CP_first_values
  have b_m_CP_first_values : Binds K _ ["self"] [] := F_m_CP_first_values.b1 fun _ _ _ _ _ _ _ => rfl
  have F_m_CP_code := fun_mk (st := s_Program_code) l_m_CP_code c_m_CP_code k_m_CP_code
  have b_m_CP_code : Binds K _ ["self", "thread"] [] := F_m_CP_code.b2 fun _ _ _ _ _ _ _ _ => rfl
  have F_m_CP_line := fun_mk (st := s_Program_line) l_m_CP_line c_m_CP_line k_m_CP_line
  have b_m_CP_line : Binds K _ ["self", "thread", "number"] [] := F_m_CP_line.b3 fun _ _ _ _ _ _ _ _ _ => rfl
  have F_g_limits_of := fun_mk (st := s_limits_of) l_g_limits_of c_g_limits_of k_g_limits_of
  have b_g_limits_of : Binds K _ ["many", "names"] [] := F_g_limits_of.b2 fun _ _ _ _ _ _ _ _ => rfl
  have C_g_limits_of : Cal K mg "limits_of" f_g_limits_of _ ["many", "names"] := ⟨PySem.W.mg_of X G a_g_limits_of, k_g_limits_of, b_g_limits_of⟩
  have F_g_is_value := fun_mk (st := s_is_value) l_g_is_value c_g_is_value k_g_is_value
  have b_g_is_value : Binds K _ ["value"] [] := F_g_is_value.b1 fun _ _ _ _ _ _ _ => rfl
  have C_g_is_value : Cal K mg "is_value" f_g_is_value _ ["value"] := ⟨PySem.W.mg_of X G a_g_is_value, k_g_is_value, b_g_is_value⟩
  have F_g_is_part := fun_mk (st := s_is_part) l_g_is_part c_g_is_part k_g_is_part
  have b_g_is_part : Binds K _ ["limits", "kind", "part"] [] := F_g_is_part.b3 fun _ _ _ _ _ _ _ _ _ => rfl
  have C_g_is_part : Cal K mg "is_part" f_g_is_part _ ["limits", "kind", "part"] := ⟨PySem.W.mg_of X G a_g_is_part, k_g_is_part, b_g_is_part⟩
  have F_g_is_line := fun_mk (st := s_is_line) l_g_is_line c_g_is_line k_g_is_line
  have b_g_is_line : Binds K _ ["limits", "line"] [] := F_g_is_line.b2 fun _ _ _ _ _ _ _ _ => rfl
  have C_g_is_line : Cal K mg "is_line" f_g_is_line _ ["limits", "line"] := ⟨PySem.W.mg_of X G a_g_is_line, k_g_is_line, b_g_is_line⟩
  have F_g_begin := fun_mk (st := s_begin) l_g_begin c_g_begin k_g_begin
  have b_g_begin : Binds K _ ["program"] [] := F_g_begin.b1 fun _ _ _ _ _ _ _ => rfl
  have C_g_begin : Cal K mg "begin" f_g_begin _ ["program"] := ⟨PySem.W.mg_of X G a_g_begin, k_g_begin, b_g_begin⟩
  have F_g_ended := fun_mk (st := s_ended) l_g_ended c_g_ended k_g_ended
  have b_g_ended : Binds K _ ["program", "state", "thread"] [] := F_g_ended.b3 fun _ _ _ _ _ _ _ _ _ => rfl
  have C_g_ended : Cal K mg "ended" f_g_ended _ ["program", "state", "thread"] := ⟨PySem.W.mg_of X G a_g_ended, k_g_ended, b_g_ended⟩
  have F_g_next_line := fun_mk (st := s_next_line) l_g_next_line c_g_next_line k_g_next_line
  have b_g_next_line : Binds K _ ["program", "state", "thread"] [] := F_g_next_line.b3 fun _ _ _ _ _ _ _ _ _ => rfl
  have C_g_next_line : Cal K mg "next_line" f_g_next_line _ ["program", "state", "thread"] := ⟨PySem.W.mg_of X G a_g_next_line, k_g_next_line, b_g_next_line⟩
  have F_g_lets := fun_mk (st := s_lets) l_g_lets c_g_lets k_g_lets
  have b_g_lets : Binds K _ ["program", "state", "thread", "line"] [] := F_g_lets.b4 fun _ _ _ _ _ _ _ _ _ _ => rfl
  have C_g_lets : Cal K mg "lets" f_g_lets _ ["program", "state", "thread", "line"] := ⟨PySem.W.mg_of X G a_g_lets, k_g_lets, b_g_lets⟩
  have F_g_may_move := fun_mk (st := s_may_move) l_g_may_move c_g_may_move k_g_may_move
  have b_g_may_move : Binds K _ ["program", "state", "thread"] [] := F_g_may_move.b3 fun _ _ _ _ _ _ _ _ _ => rfl
  have C_g_may_move : Cal K mg "may_move" f_g_may_move _ ["program", "state", "thread"] := ⟨PySem.W.mg_of X G a_g_may_move, k_g_may_move, b_g_may_move⟩
  have F_g_put := fun_mk (st := s_put) l_g_put c_g_put k_g_put
  have b_g_put : Binds K _ ["parts", "place", "part"] [] := F_g_put.b3 fun _ _ _ _ _ _ _ _ _ => rfl
  have C_g_put : Cal K mg "put" f_g_put _ ["parts", "place", "part"] := ⟨PySem.W.mg_of X G a_g_put, k_g_put, b_g_put⟩
  have F_g_value_of := fun_mk (st := s_value_of) l_g_value_of c_g_value_of k_g_value_of
  have b_g_value_of : Binds K _ ["own", "value"] [] := F_g_value_of.b2 fun _ _ _ _ _ _ _ _ => rfl
  have C_g_value_of : Cal K mg "value_of" f_g_value_of _ ["own", "value"] := ⟨PySem.W.mg_of X G a_g_value_of, k_g_value_of, b_g_value_of⟩
  have F_g_is_so := fun_mk (st := s_is_so) l_g_is_so c_g_is_so k_g_is_so
  have b_g_is_so : Binds K _ ["own", "one", "test", "other"] [] := F_g_is_so.b4 fun _ _ _ _ _ _ _ _ _ _ => rfl
  have C_g_is_so : Cal K mg "is_so" f_g_is_so _ ["own", "one", "test", "other"] := ⟨PySem.W.mg_of X G a_g_is_so, k_g_is_so, b_g_is_so⟩
  have F_g_reckoned := fun_mk (st := s_reckoned) l_g_reckoned c_g_reckoned k_g_reckoned
  have b_g_reckoned : Binds K _ ["own", "one", "sign", "other"] [] := F_g_reckoned.b4 fun _ _ _ _ _ _ _ _ _ _ => rfl
  have C_g_reckoned : Cal K mg "reckoned" f_g_reckoned _ ["own", "one", "sign", "other"] := ⟨PySem.W.mg_of X G a_g_reckoned, k_g_reckoned, b_g_reckoned⟩
  have F_g_number_behind := fun_mk (st := s_number_behind) l_g_number_behind c_g_number_behind k_g_number_behind
  have b_g_number_behind : Binds K _ ["line", "number", "own"] [] := F_g_number_behind.b3 fun _ _ _ _ _ _ _ _ _ => rfl
  have C_g_number_behind : Cal K mg "number_behind" f_g_number_behind _ ["line", "number", "own"] := ⟨PySem.W.mg_of X G a_g_number_behind, k_g_number_behind, b_g_number_behind⟩
  have F_g_own_behind := fun_mk (st := s_own_behind) l_g_own_behind c_g_own_behind k_g_own_behind
  have b_g_own_behind : Binds K _ ["line", "own", "values"] [] := F_g_own_behind.b3 fun _ _ _ _ _ _ _ _ _ => rfl
  have C_g_own_behind : Cal K mg "own_behind" f_g_own_behind _ ["line", "own", "values"] := ⟨PySem.W.mg_of X G a_g_own_behind, k_g_own_behind, b_g_own_behind⟩
  have F_g_values_behind := fun_mk (st := s_values_behind) l_g_values_behind c_g_values_behind k_g_values_behind
  have b_g_values_behind : Binds K _ ["line", "own", "values"] [] := F_g_values_behind.b3 fun _ _ _ _ _ _ _ _ _ => rfl
  have C_g_values_behind : Cal K mg "values_behind" f_g_values_behind _ ["line", "own", "values"] := ⟨PySem.W.mg_of X G a_g_values_behind, k_g_values_behind, b_g_values_behind⟩
  have F_g_holders_behind := fun_mk (st := s_holders_behind) l_g_holders_behind c_g_holders_behind k_g_holders_behind
  have b_g_holders_behind : Binds K _ ["line", "thread", "holders"] [] := F_g_holders_behind.b3 fun _ _ _ _ _ _ _ _ _ => rfl
  have C_g_holders_behind : Cal K mg "holders_behind" f_g_holders_behind _ ["line", "thread", "holders"] := ⟨PySem.W.mg_of X G a_g_holders_behind, k_g_holders_behind, b_g_holders_behind⟩
  have F_g_awake_behind := fun_mk (st := s_awake_behind) l_g_awake_behind c_g_awake_behind k_g_awake_behind
  have b_g_awake_behind : Binds K _ ["line", "awake"] [] := F_g_awake_behind.b2 fun _ _ _ _ _ _ _ _ => rfl
  have C_g_awake_behind : Cal K mg "awake_behind" f_g_awake_behind _ ["line", "awake"] := ⟨PySem.W.mg_of X G a_g_awake_behind, k_g_awake_behind, b_g_awake_behind⟩
  have F_g_moved := fun_mk (st := s_moved) l_g_moved c_g_moved k_g_moved
  have b_g_moved : Binds K _ ["program", "state", "thread"] [] := F_g_moved.b3 fun _ _ _ _ _ _ _ _ _ => rfl
  have C_g_moved : Cal K mg "moved" f_g_moved _ ["program", "state", "thread"] := ⟨PySem.W.mg_of X G a_g_moved, k_g_moved, b_g_moved⟩
  have F_g_deed_of := fun_mk (st := s_deed_of) l_g_deed_of c_g_deed_of k_g_deed_of
  have b_g_deed_of : Binds K _ ["program", "state", "thread"] [] := F_g_deed_of.b3 fun _ _ _ _ _ _ _ _ _ => rfl
  have C_g_deed_of : Cal K mg "deed_of" f_g_deed_of _ ["program", "state", "thread"] := ⟨PySem.W.mg_of X G a_g_deed_of, k_g_deed_of, b_g_deed_of⟩
  have F_g_run := fun_mk (st := s_run) l_g_run c_g_run k_g_run
  have b_g_run : Binds K _ ["program", "schedule"] [] := F_g_run.b2 fun _ _ _ _ _ _ _ _ => rfl
  have C_g_run : Cal K mg "run" f_g_run _ ["program", "schedule"] := ⟨PySem.W.mg_of X G a_g_run, k_g_run, b_g_run⟩
  have F_g_law_cell_at := fun_mk (st := sCell) l_g_law_cell_at c_g_law_cell_at k_g_law_cell_at
  have b_g_law_cell_at : Binds K _ ["_law_script", "_law_k"] [] := F_g_law_cell_at.b2 fun _ _ _ _ _ _ _ _ => rfl
  have C_g_law_cell_at : Cal K mg "_law_cell_at" f_g_law_cell_at _ ["_law_script", "_law_k"] := ⟨PySem.W.mg_of X G a_g_law_cell_at, k_g_law_cell_at, b_g_law_cell_at⟩
  have F_g_law_value := fun_mk (st := s__law_value) l_g_law_value c_g_law_value k_g_law_value
  have b_g_law_value : Binds K _ ["_law_number"] [] := F_g_law_value.b1 fun _ _ _ _ _ _ _ => rfl
  have C_g_law_value : Cal K mg "_law_value" f_g_law_value _ ["_law_number"] := ⟨PySem.W.mg_of X G a_g_law_value, k_g_law_value, b_g_law_value⟩
  have F_g_law_line := fun_mk (st := s__law_line) l_g_law_line c_g_law_line k_g_law_line
  have b_g_law_line : Binds K _ ["_law_cell", "_law_many", "_law_size"] [] := F_g_law_line.b3 fun _ _ _ _ _ _ _ _ _ => rfl
  have C_g_law_line : Cal K mg "_law_line" f_g_law_line _ ["_law_cell", "_law_many", "_law_size"] := ⟨PySem.W.mg_of X G a_g_law_line, k_g_law_line, b_g_law_line⟩
  have F_g_law_codes := fun_mk (st := s__law_codes) l_g_law_codes c_g_law_codes k_g_law_codes
  have b_g_law_codes : Binds K _ ["_law_script", "_law_many", "_law_size"] [] := F_g_law_codes.b3 fun _ _ _ _ _ _ _ _ _ => rfl
  have C_g_law_codes : Cal K mg "_law_codes" f_g_law_codes _ ["_law_script", "_law_many", "_law_size"] := ⟨PySem.W.mg_of X G a_g_law_codes, k_g_law_codes, b_g_law_codes⟩
  have F_g_law_firsts := fun_mk (st := s__law_firsts) l_g_law_firsts c_g_law_firsts k_g_law_firsts
  have b_g_law_firsts : Binds K _ ["_law_script", "_law_size"] [] := F_g_law_firsts.b2 fun _ _ _ _ _ _ _ _ => rfl
  have C_g_law_firsts : Cal K mg "_law_firsts" f_g_law_firsts _ ["_law_script", "_law_size"] := ⟨PySem.W.mg_of X G a_g_law_firsts, k_g_law_firsts, b_g_law_firsts⟩
  have F_g_law_may := fun_mk (st := s__law_may) l_g_law_may c_g_law_may k_g_law_may
  have b_g_law_may : Binds K _ ["_law_codes_here", "_law_state", "_law_thread"] [] := F_g_law_may.b3 fun _ _ _ _ _ _ _ _ _ => rfl
  have C_g_law_may : Cal K mg "_law_may" f_g_law_may _ ["_law_codes_here", "_law_state", "_law_thread"] := ⟨PySem.W.mg_of X G a_g_law_may, k_g_law_may, b_g_law_may⟩
  have F_g_law_asked := fun_mk (st := s__law_asked) l_g_law_asked c_g_law_asked k_g_law_asked
  have b_g_law_asked : Binds K _ ["_law_made", "_law_state", "_law_thread", "_law_schedule"] [] := F_g_law_asked.b4 fun _ _ _ _ _ _ _ _ _ _ => rfl
  have C_g_law_asked : Cal K mg "_law_asked" f_g_law_asked _ ["_law_made", "_law_state", "_law_thread", "_law_schedule"] := ⟨PySem.W.mg_of X G a_g_law_asked, k_g_law_asked, b_g_law_asked⟩
  have F_g_law_refused := fun_mk (st := sRef) l_g_law_refused c_g_law_refused k_g_law_refused
  have b_g_law_refused : Binds K _ ["_law_made", "_law_state", "_law_thread", "_law_schedule"] [] := F_g_law_refused.b4 fun _ _ _ _ _ _ _ _ _ _ => rfl
  have C_g_law_refused : Cal K mg "_law_refused" f_g_law_refused _ ["_law_made", "_law_state", "_law_thread", "_law_schedule"] := ⟨PySem.W.mg_of X G a_g_law_refused, k_g_law_refused, b_g_law_refused⟩
  have F_g_law_wrong := fun_mk (st := s__law_wrong) l_g_law_wrong c_g_law_wrong k_g_law_wrong
  have b_g_law_wrong : Binds K _ ["_law_codes_here", "_law_state", "_law_cell"] [] := F_g_law_wrong.b3 fun _ _ _ _ _ _ _ _ _ => rfl
  have C_g_law_wrong : Cal K mg "_law_wrong" f_g_law_wrong _ ["_law_codes_here", "_law_state", "_law_cell"] := ⟨PySem.W.mg_of X G a_g_law_wrong, k_g_law_wrong, b_g_law_wrong⟩
  have F_g_law := fun_mk (st := sLaw) l_g_law c_g_law k_g_law
  exact ⟨PySem.W.fnOf "law" "law" (defArgs sLaw) (defBody sLaw) (defScope sLaw) .none kV_g_law dc_g_law pm_g_law an_g_law cd_g_law ct_g_law, fun s v => .of_eq rfl, fun base _ _ =>
    have GLim := ok_lim (P := l.prog) (w := w) (base := base) F_g_limits_of T
    have GVal := ok_val (P := l.prog) (w := w) (base := base) F_g_is_value B T
    have GPart := ok_part (P := l.prog) (w := w) (base := base) F_g_is_part T GVal C_g_is_value
    have GLine := ok_line (P := l.prog) (w := w) (base := base) F_g_is_line B T GPart C_g_is_part
    have GProg := ok_prog (P := l.prog) (w := w) (base := base) F_m_CP_init B T R GLim C_g_limits_of GLine C_g_is_line
    have MProg : Mk K CP f_m_CP_init := ⟨mk_CP, a_m_CP_init, i_m_CP_init, kc_CP⟩
    have GFirsts := ok_firsts (P := l.prog) (w := w) (base := base) F_m_CP_first_values B R
    have MFirsts : Meth K CP "first_values" f_m_CP_first_values := ⟨a_m_CP_first_values, i_m_CP_first_values, k_m_CP_first_values⟩
    have GCode := ok_code (P := l.prog) (w := w) (base := base) F_m_CP_code B R
    have MCode : Meth K CP "code" f_m_CP_code := ⟨a_m_CP_code, i_m_CP_code, k_m_CP_code⟩
    have GPLine := ok_pline (P := l.prog) (w := w) (base := base) F_m_CP_line B R
    have MPLine : Meth K CP "line" f_m_CP_line := ⟨a_m_CP_line, i_m_CP_line, k_m_CP_line⟩
    have GCell := ok_cell (P := l.prog) (w := w) (base := base) F_g_law_cell_at B
    have GLV := ok_lv (P := l.prog) (w := w) (base := base) F_g_law_value
    have GLL := ok_ll (P := l.prog) (w := w) (base := base) F_g_law_line GLV C_g_law_value
    have GCodes := ok_codes (P := l.prog) (w := w) (base := base) F_g_law_codes B GCell C_g_law_cell_at GLL C_g_law_line
    have GFs := ok_fs (P := l.prog) (w := w) (base := base) F_g_law_firsts B GCell C_g_law_cell_at GLV C_g_law_value
    have GBegin := ok_begin (P := l.prog) (w := w) (base := base) F_g_begin B T R GFirsts b_m_CP_first_values MFirsts
    have GEnd := ok_end (P := l.prog) (w := w) (base := base) F_g_ended B R GCode b_m_CP_code MCode
    have GNext := ok_next (P := l.prog) (w := w) (base := base) F_g_next_line R GPLine b_m_CP_line MPLine
    have GLets := ok_lets (P := l.prog) (w := w) (base := base) F_g_lets GEnd C_g_ended
    have GMay := ok_may (P := l.prog) (w := w) (base := base) F_g_may_move R GEnd C_g_ended GNext C_g_next_line GLets C_g_lets
    have GPut := ok_put (P := l.prog) (w := w) (base := base) F_g_put
    have GVO := ok_vo (P := l.prog) (w := w) (base := base) F_g_value_of
    have GSo := ok_so (P := l.prog) (w := w) (base := base) F_g_is_so GVO C_g_value_of
    have GReck := ok_reck (P := l.prog) (w := w) (base := base) F_g_reckoned GVO C_g_value_of
    have GNB := ok_nb (P := l.prog) (w := w) (base := base) F_g_number_behind GSo C_g_is_so
    have GOB := ok_ob (P := l.prog) (w := w) (base := base) F_g_own_behind GPut C_g_put GReck C_g_reckoned
    have GVB := ok_vb (P := l.prog) (w := w) (base := base) F_g_values_behind GPut C_g_put GVO C_g_value_of
    have GHB := ok_hb (P := l.prog) (w := w) (base := base) F_g_holders_behind GPut C_g_put
    have GAB := ok_ab (P := l.prog) (w := w) (base := base) F_g_awake_behind GPut C_g_put
    have GMoved := ok_moved (P := l.prog) (w := w) (base := base) F_g_moved GMay C_g_may_move GNext C_g_next_line GPut C_g_put GNB C_g_number_behind GOB C_g_own_behind GVB C_g_values_behind GHB C_g_holders_behind GAB C_g_awake_behind
    have GDeedOf := ok_deedof (P := l.prog) (w := w) (base := base) F_g_deed_of GNext C_g_next_line
    have GRun := ok_run (P := l.prog) (w := w) (base := base) F_g_run GBegin C_g_begin GMoved C_g_moved GDeedOf C_g_deed_of
    have GLMay := ok_lmay (P := l.prog) (w := w) (base := base) F_g_law_may B
    have GMNo := ok_movedNo (P := l.prog) (w := w) (base := base) F_g_moved TV GMay C_g_may_move
    have GRNo := ok_runNo (P := l.prog) (w := w) (base := base) F_g_run GBegin C_g_begin (FnOk.or GMoved.lift GMNo) C_g_moved GDeedOf C_g_deed_of
    have GAsk := ok_ask (P := l.prog) (w := w) (base := base) F_g_law_asked GMNo C_g_moved GRNo C_g_run
    have GRef := ok_ref (P := l.prog) (w := w) (base := base) F_g_law_refused B TE GAsk C_g_law_asked
    have GWr := ok_wr (P := l.prog) (w := w) (base := base) F_g_law_wrong B GLMay C_g_law_may
    ok_law F_g_law B R GCell C_g_law_cell_at GCodes C_g_law_codes GFs C_g_law_firsts GProg b_m_CP_init MProg GBegin C_g_begin GMoved C_g_moved GRun C_g_run GRef C_g_law_refused GWr C_g_law_wrong GLMay C_g_law_may⟩
theorem walk {l : PySem.W.OpenLaw} {q : Program} {loose : List Str} {XP : (Str → Option Value) → Heap → Prop} {YP : World → Heap → Prop} {d : DefRec} {K : Params → PySem.W.Frag} (hn : l.most = some 63) (hdf : d.params.defaults = [])
    (hY : ∀ (w : World) (h : Heap), YP w h → (K w.params).In h)
    (F : ∀ (w : World) (mg : Str → Option Value) (fa : Addr) (h : Heap), (K w.params).In h → h.Ns mainGlobals mg → mg d.name = some (.ref fa) →
      ∃ fd : FuncData, (∀ (s : Shared) (u : Value), BindsTo s fd ⟨[u], []⟩ [("_law_script", u)]) ∧ ∀ base : Heap, (K w.params).In base → base.Ns mainGlobals mg → FnOk l.prog w (K w.params) mg base CX0 9 fa fd ["_law_script"] (spLaw (K w.params))) :
    PySem.W.WalkO q loose XP YP l.row.toRowW d [] (fun f vs => PySem.call f vs) :=
  L2.walk_of (n := 63) (k := 9) (x := "_law_script") (CX := fun _ => CX0) (sp := fun w => spLaw (K w.params)) hn (by decide) hdf ⟨rfl, by decide, by decide, rfl⟩ hY F (fun _ _ a ns hl _ hS => ⟨a, ns, rfl, hS, hl, fun _ => rfl⟩) fun _ _ _ _ _ z => z
end K
namespace PySem.W.Fast
theorem tw10445173754132919371 : True := trivial
theorem tw703289652058467292 : True := trivial
theorem tw14977898799118152055 : True := trivial
theorem tw5757028432988581088 : True := trivial
theorem tw8744939050886308868 : True := trivial
theorem tw7438368073291166958 : True := trivial
theorem tw7204680380097573608 : True := trivial
theorem tw1502961489015726149 : True := trivial
theorem tw6841706578738092212 : True := trivial
theorem tw1271258887165559171 : True := trivial
theorem tw11246076939613568328 : True := trivial
theorem tw3416284246944673143 : True := trivial
theorem tw5368096731302825901 : True := trivial
theorem tw9490573613234996320 : True := trivial
theorem tw53009004796523357 : True := trivial
theorem tw3576975260668419507 : True := trivial
theorem tw4066185804947554080 : True := trivial
theorem tw17719366894544370386 : True := trivial
theorem tw15441832628982273690 : True := trivial
theorem tw2198692857144911747 : True := trivial
theorem tw5933835853751493121 : True := trivial
theorem tw1209537352883914181 : True := trivial
theorem tw9744447022706468564 : True := trivial
theorem tw8463007171973404550 : True := trivial
theorem tw6675071096535823382 : True := trivial
theorem tw10992564598323238060 : True := trivial
theorem tw9192935238305788789 : True := trivial
theorem tw15971105400199504103 : True := trivial
theorem tw15742419637970997362 : True := trivial
theorem tw1350371902018735501 : True := trivial
theorem tw13649127721140875523 : True := trivial
theorem tw1059110130789660953 : True := trivial
theorem tw1330085133091823182 : True := trivial
theorem tw17582762118821045088 : True := trivial
theorem tw7700391064077039619 : True := trivial
theorem tw3692232124319157276 : True := trivial
theorem tw12749464699923137665 : True := trivial
theorem tw4657620194143841363 : True := trivial
theorem tw834899118145571150 : True := trivial
theorem tw17792634673682941896 : True := trivial
theorem tw8531652128210023961 : True := trivial
theorem tw16758642010296850548 : True := trivial
theorem tw5212244556005708621 : True := trivial
theorem tw17370660511459657781 : True := trivial
theorem tw463806175789462979 : True := trivial
theorem tw16373419812258812508 : True := trivial
theorem tw15252710884386666780 : True := trivial
theorem tw10485770131488342014 : True := trivial
theorem tw6074820815238197076 : True := trivial
theorem tw5967421700011745949 : True := trivial
theorem tw13966095320604180291 : True := trivial
theorem tw1361132335619390961 : True := trivial
theorem tw86159672815264557 : True := trivial
theorem tw14435185130955996756 : True := trivial
theorem tw6069520820148688720 : True := trivial
theorem tw3318016763355148905 : True := trivial
theorem tw13139083997069130182 : True := trivial
theorem tw8868279743035456956 : True := trivial
theorem tw9374018461811122667 : True := trivial
theorem tw8690104661034968674 : True := trivial
theorem tw11138419607564783299 : True := trivial
theorem tw2526067511447735728 : True := trivial
theorem tw2821717500647636236 : True := trivial
theorem tw14727809255423765077 : True := trivial
theorem tw4154958348832252567 : True := trivial
theorem tw3455170582891525868 : True := trivial
theorem tw8472475609735946814 : True := trivial
theorem tw3166291219656442075 : True := trivial
theorem tw177258854219608884 : True := trivial
theorem tw4195155615173274084 : True := trivial
theorem tw7608063320201818128 : True := trivial
theorem tw12307106816624946487 : True := trivial
theorem tw13682968507412115110 : True := trivial
theorem tw6203775661941050184 : True := trivial
theorem tw9849972420543694205 : True := trivial
theorem tw14531502344765757212 : True := trivial
theorem tw7774778171156742101 : True := trivial
theorem tw17901907287019394061 : True := trivial
theorem tw3086975664430273299 : True := trivial
theorem tw2539064078665406317 : True := trivial
theorem tw6084923536080133048 : True := trivial
theorem tw18039018788311965187 : True := trivial
theorem tw2387186879070757597 : True := trivial
theorem tw18141521092132516306 : True := trivial
theorem tw7494078857728145822 : True := trivial
theorem tw5570038915976606485 : True := trivial
theorem tw5307943877221985639 : True := trivial
theorem tw11899585414773962032 : True := trivial
theorem tw16657609892918693382 : True := trivial
theorem tw17124677314154884765 : True := trivial
theorem tw16002109681290212496 : True := trivial
theorem tw2585838628041534869 : True := trivial
theorem tw10878841862495959838 : True := trivial
theorem tw6529726448704687330 : True := trivial
theorem tw3673004828423387858 : True := trivial
theorem tw7632720530392123837 : True := trivial
theorem tw9209490375727793647 : True := trivial
theorem tw11985689549744210056 : True := trivial
theorem tw12829804613830226831 : True := trivial
theorem tw1258566685704813495 : True := trivial
theorem tw6932534217216966672 : True := trivial
theorem tw15931636804847366376 : True := trivial
theorem tw17775716532549203640 : True := trivial
theorem tw16231861138044319020 : True := trivial
theorem tw10136307181916829976 : True := trivial
theorem tw1458930649522402965 : True := trivial
theorem tw4524567995581248549 : True := trivial
theorem tw9658440448111766296 : True := trivial
theorem tw1711797665395663709 : True := trivial
theorem tw1549634087901923954 : True := trivial
theorem tw10577918170391423454 : True := trivial
theorem tw16425370382533822413 : True := trivial
theorem tw10960042716168954481 : True := trivial
theorem tw16373200058998214958 : True := trivial
theorem tw12565125540411986957 : True := trivial
theorem tw11952406695817931112 : True := trivial
theorem tw7799906071523482140 : True := trivial
theorem tw524440809146017875 : True := trivial
theorem tw3828453430076081134 : True := trivial
theorem tw10066576974986636977 : True := trivial
theorem tw3504970716406978234 : True := trivial
theorem tw12877436730392359013 : True := trivial
theorem tw16254013284646207067 : True := trivial
theorem tw7512325195592162497 : True := trivial
theorem tw1100771533276578327 : True := trivial
theorem tw457436319094485858 : True := trivial
theorem tw1097200891603149939 : True := trivial
theorem tw6185946703495972870 : True := trivial
theorem tw597478902479601643 : True := trivial
theorem tw4299317605925297455 : True := trivial
theorem tw8748892127709059811 : True := trivial
theorem tw4979400625742311385 : True := trivial
theorem tw17146910713234051600 : True := trivial
theorem tw1693459839342333387 : True := trivial
theorem tw3481805786936094505 : True := trivial
theorem tw966827674962053282 : True := trivial
theorem tw7978238947256035014 : True := trivial
theorem tw10244276399384529090 : True := trivial
theorem tw17354365070238573433 : True := trivial
theorem tw11221362679057517385 : True := trivial
theorem tw1849104834098272908 : True := trivial
theorem tw14100509224428303946 : True := trivial
theorem tw16180266105089259145 : True := trivial
theorem tw2813409000437689660 : True := trivial
theorem tw14655031736609890771 : True := trivial
theorem tw6357618663391508383 : True := trivial
theorem tw4274855453077857822 : True := trivial
theorem tw11720027445549448094 : True := trivial
theorem tw110874035071131483 : True := trivial
theorem tw15566315362953713984 : True := trivial
theorem tw6866846961702448079 : True := trivial
theorem tw16330700659204156755 : True := trivial
theorem tw247298902651354712 : True := trivial
theorem tw7415258273620717547 : True := trivial
theorem tw4690904526277840040 : True := trivial
theorem tw16447397864941037673 : True := trivial
theorem tw10520853729879103085 : True := trivial
theorem tw2834031411165980521 : True := trivial
theorem tw859399984052082367 : True := trivial
theorem tw18076679676912288839 : True := trivial
theorem tw2334209534390563198 : True := trivial
theorem tw7689488992092252998 : True := trivial
theorem tw9561549744219434814 : True := trivial
theorem tw1304664698655561275 : True := trivial
theorem tw10979081842778645252 : True := trivial
theorem tw7447464964818416957 : True := trivial
theorem tw10876298451234782272 : True := trivial
theorem tw9378122928303486785 : True := trivial
theorem tw6780518939368709799 : True := trivial
theorem tw10856930738690002963 : True := trivial
theorem tw12696540059136216962 : True := trivial
theorem tw18147275162079610186 : True := trivial
theorem tw15384656024287051931 : True := trivial
theorem tw13897729814556493669 : True := trivial
theorem tw12577267991621097843 : True := trivial
theorem tw2278161881557550935 : True := trivial
theorem tw12526563127290881082 : True := trivial
theorem tw269695783753161917 : True := trivial
theorem tw8651162457789522410 : True := trivial
theorem tw5708515733172437641 : True := trivial
theorem tw2887476007680390959 : True := trivial
theorem tw16075118264058902359 : True := trivial
theorem tw11075415740707447024 : True := trivial
theorem tw12380128679711239184 : True := trivial
theorem tw6631101482383089534 : True := trivial
theorem tw12436415539711735300 : True := trivial
theorem tw3656754321581026607 : True := trivial
theorem tw8713902535617834534 : True := trivial
theorem tw7421526707013966991 : True := trivial
theorem tw12897034422128654942 : True := trivial
theorem tw3761637885151333913 : True := trivial
theorem tw17688124384024812277 : True := trivial
theorem tw17926542325439499413 : True := trivial
theorem tw4147010243041725538 : True := trivial
theorem tw13319252597383515916 : True := trivial
theorem tw10454372726877026007 : True := trivial
theorem tw17225744241635594695 : True := trivial
theorem tw14342023698835499284 : True := trivial
theorem tw5432068472213750508 : True := trivial
theorem tw5122290646987986812 : True := trivial
theorem tw15666866906727810722 : True := trivial
theorem tw3315185502810995573 : True := trivial
theorem tw12607996400951960058 : True := trivial
theorem tw9938268773938578102 : True := trivial
theorem tw7831999665441860364 : True := trivial
theorem tw9254276771867384406 : True := trivial
theorem tw11293202273765835678 : True := trivial
theorem tw15576314612374557416 : True := trivial
theorem tw5006384746809057237 : True := trivial
theorem tw1924357019216116707 : True := trivial
theorem tw4568030478582595881 : True := trivial
theorem tw16254298059823893109 : True := trivial
theorem tw12987052357760191570 : True := trivial
theorem tw11957872740248849694 : True := trivial
theorem tw3163874288252808277 : True := trivial
theorem tw7146706117146349430 : True := trivial
theorem tw14600461106559262954 : True := trivial
theorem tw2660821905436400666 : True := trivial
theorem tw17302107447281708789 : True := trivial
theorem tw18419833186105726662 : True := trivial
theorem tw4115172670899199415 : True := trivial
theorem tw11543564439506321370 : True := trivial
theorem tw13044688415891967852 : True := trivial
theorem tw466229636051746580 : True := trivial
theorem tw10400641255690289856 : True := trivial
theorem tw11228703333923738570 : True := trivial
theorem tw6369858090702911612 : True := trivial
theorem tw14525579879635234775 : True := trivial
theorem tw8004608391085274300 : True := trivial
theorem tw3860280726757555047 : True := trivial
theorem tw10878347648184664789 : True := trivial
theorem tw17302269103731565247 : True := trivial
theorem tw11724648944284179555 : True := trivial
theorem tw5306889328847428956 : True := trivial
theorem tw437487442587607728 : True := trivial
theorem tw17984666575360158985 : True := trivial
theorem tw10674298541468065859 : True := trivial
theorem tw3090230734116277316 : True := trivial
theorem tw10509014134465428835 : True := trivial
theorem tw9855155887770049351 : True := trivial
theorem tw8814413993316727241 : True := trivial
theorem tw2851624830633104692 : True := trivial
theorem tw17460877325372291456 : True := trivial
theorem tw16501778936638767758 : True := trivial
theorem tw186583294146431489 : True := trivial
theorem tw1102352367157360235 : True := trivial
theorem tw573203874484363228 : True := trivial
theorem tw9122059091688513173 : True := trivial
theorem tw7864133037286534431 : True := trivial
theorem tw5488535377038909131 : True := trivial
theorem tw157032345611447458 : True := trivial
theorem tw15102230719755365066 : True := trivial
theorem tw16670230960730914916 : True := trivial
theorem tw4908700658871675130 : True := trivial
theorem tw11502747101672133903 : True := trivial
theorem tw14462835851333821904 : True := trivial
theorem tw17300540687483633033 : True := trivial
theorem tw15154125229357200614 : True := trivial
theorem tw6074910519925730798 : True := trivial
theorem tw12639058487780971352 : True := trivial
theorem tw15705787069197645068 : True := trivial
theorem tw15560312658651794653 : True := trivial
theorem tw7278051617590184309 : True := trivial
theorem tw11053299508215354997 : True := trivial
theorem tw17711406117092685999 : True := trivial
theorem tw3599670337846279339 : True := trivial
theorem tw8313497876695962731 : True := trivial
theorem tw321764551999517333 : True := trivial
theorem tw13566204091762379969 : True := trivial
theorem tw9739039723917269435 : True := trivial
theorem tw15913990805716195360 : True := trivial
theorem tw327714476856355518 : True := trivial
theorem tw11840392650875325324 : True := trivial
theorem tw7526349500756196884 : True := trivial
theorem tw12752940948240321460 : True := trivial
theorem tw16873750599660660739 : True := trivial
theorem tw11335768113023400548 : True := trivial
theorem tw7001243302045233091 : True := trivial
theorem tw1966052139621575807 : True := trivial
theorem tw10154095968821505956 : True := trivial
theorem tw11102703926801113698 : True := trivial
theorem tw4285419526665740749 : True := trivial
theorem tw15331402950169542614 : True := trivial
theorem tw6877187968211202544 : True := trivial
theorem tw14824411945319586441 : True := trivial
theorem tw2500892148405534535 : True := trivial
theorem tw16389737727355369684 : True := trivial
theorem tw8249686674446702686 : True := trivial
theorem tw1984998286680193161 : True := trivial
theorem tw4359275846482037991 : True := trivial
theorem tw14572001084766384417 : True := trivial
theorem tw15355415446953813664 : True := trivial
theorem tw2893857929599527264 : True := trivial
theorem tw15221006675732230853 : True := trivial
theorem tw9843927558697679244 : True := trivial
theorem tw15101069257734135607 : True := trivial
theorem tw7475832110258567534 : True := trivial
theorem tw2347057661486854723 : True := trivial
theorem tw13817809049150113500 : True := trivial
theorem tw15132090001181339972 : True := trivial
theorem tw17336121766063118601 : True := trivial
theorem tw8613411261625794135 : True := trivial
theorem tw17515015666363047876 : True := trivial
theorem tw1145288456952295172 : True := trivial
theorem tw9701713242048296579 : True := trivial
theorem tw7686988531899932902 : True := trivial
theorem tw12983263139978107087 : True := trivial
theorem tw6031829420528012103 : True := trivial
theorem tw14373037152098552861 : True := trivial
theorem tw13025085080275468837 : True := trivial
theorem tw15289718189197959068 : True := trivial
theorem tw1373954128289504853 : True := trivial
theorem tw18234082776000904726 : True := trivial
theorem tw6464490021524909956 : True := trivial
theorem tw3644904945076460185 : True := trivial
theorem tw7589214501940305579 : True := trivial
theorem tw17048521940934604500 : True := trivial
theorem tw16048765724303619368 : True := trivial
theorem tw2603819316590408182 : True := trivial
theorem tw36831131306054131 : True := trivial
theorem tw17895900385408909573 : True := trivial
theorem tw2612531733800468990 : True := trivial
theorem tw13159455174760630797 : True := trivial
theorem tw2359952777866313675 : True := trivial
theorem tw3018479988140554956 : True := trivial
theorem tw14505358481655163916 : True := trivial
theorem tw6116691451598340157 : True := trivial
theorem tw17973663828225753012 : True := trivial
theorem tw4466300932876481370 : True := trivial
theorem tw2771804085290460457 : True := trivial
theorem tw1682971514116791095 : True := trivial
theorem tw528788015531906106 : True := trivial
theorem tw12758453897723579308 : True := trivial
theorem tw3172752304653708193 : True := trivial
theorem tw16421293022539189855 : True := trivial
theorem tw5788374460602024619 : True := trivial
theorem tw12470671635173563336 : True := trivial
theorem tw14787830832669226232 : True := trivial
theorem tw1762274962381098277 : True := trivial
theorem tw13845012003461073593 : True := trivial
theorem tw6395697942590812577 : True := trivial
theorem tw3063668735466137843 : True := trivial
theorem tw7751742049884063198 : True := trivial
theorem tw14225788243412394115 : True := trivial
theorem tw10731566028442047416 : True := trivial
theorem tw4886680771606159697 : True := trivial
theorem tw13950966674442844666 : True := trivial
theorem tw12105103835529153492 : True := trivial
theorem tw12424986359232555273 : True := trivial
theorem tw4626926759026797435 : True := trivial
theorem tw16282758336970309187 : True := trivial
theorem tw9036907711881648241 : True := trivial
theorem tw1707524812633936676 : True := trivial
theorem tw5789279024153637792 : True := trivial
theorem tw17413496812932930626 : True := trivial
theorem tw496704744703515794 : True := trivial
theorem tw971976138340144887 : True := trivial
theorem tw1489180511128861933 : True := trivial
theorem tw17407250840896294835 : True := trivial
theorem tw3225693733483824873 : True := trivial
theorem tw5728940610499942144 : True := trivial
theorem tw211086913369275181 : True := trivial
theorem tw15723943821056755893 : True := trivial
theorem tw168092792178378970 : True := trivial
theorem tw13537008811392375518 : True := trivial
theorem tw16075900330751095887 : True := trivial
theorem tw13911627672856554706 : True := trivial
theorem tw1543112985187442541 : True := trivial
theorem tw11352051102709403147 : True := trivial
theorem tw13402512631162567861 : True := trivial
theorem tw31457847066523117 : True := trivial
theorem tw8364318139352101632 : True := trivial
theorem tw5366642204075681468 : True := trivial
theorem tw15806678440297110216 : True := trivial
theorem tw14872856625411007733 : True := trivial
theorem tw10270973510855889005 : True := trivial
theorem tw13928154431862819453 : True := trivial
theorem tw13562578013127063301 : True := trivial
theorem tw10105763621934265058 : True := trivial
theorem tw8309664103386378998 : True := trivial
theorem tw14664633105681570997 : True := trivial
theorem tw8312302583419321448 : True := trivial
theorem tw10458917066489308423 : True := trivial
theorem tw12753743311544266336 : True := trivial
theorem tw5976703454961674776 : True := trivial
theorem tw3295188235491819602 : True := trivial
theorem tw5598898002838443122 : True := trivial
theorem tw8544272895875212146 : True := trivial
theorem tw843535697975409475 : True := trivial
theorem tw2166559736108228213 : True := trivial
theorem tw10039002215565978649 : True := trivial
theorem tw10357956564033612593 : True := trivial
theorem tw14343343591511781109 : True := trivial
theorem tw12873273955820688529 : True := trivial
theorem tw11465111644721311735 : True := trivial
theorem tw4499807807203357312 : True := trivial
theorem tw7895361987242318262 : True := trivial
theorem tw12551711889481953590 : True := trivial
theorem tw10562198209722864066 : True := trivial
theorem tw1947395743044999972 : True := trivial
theorem tw2716251658545225860 : True := trivial
theorem tw5671682084093187538 : True := trivial
theorem tw10449819191134586163 : True := trivial
theorem tw9853897173202729989 : True := trivial
theorem tw15401441103875362514 : True := trivial
theorem tw13112356826441448782 : True := trivial
theorem tw15337205881985217850 : True := trivial
end PySem.W.Fast
theorem PySem.W.Fast.te11122211011107156704 : True := trivial
open PySem PySem.W PyProof.Rows
set_option maxRecDepth 100000 in
set_option maxHeartbeats 0 in
theorem PySem.Challenge.cw_racewise_k24_moves_refused_holds : PySem.Challenge.rw_racewise_k24_moves_refused.Holds := by
  w_on; o_law; k_head; (case hw => w_witness2)
  k_fill
  refine K.walk (l := PySem.Challenge.rw_racewise_k24_moves_refused) rfl rfl (fun w h Y => PySem.W.kIn_of Y) ?F
  case F =>
    intro w mg fa h KX G hmg
    refine' K.all_mk KX G hmg ?a_CP ?a_m_CP_init ?i_m_CP_init ?l_m_CP_init ?c_m_CP_init ?k_m_CP_init ?a_m_CP_first_values ?i_m_CP_first_values ?l_m_CP_first_values ?c_m_CP_first_values ?k_m_CP_first_values ?a_m_CP_code ?i_m_CP_code ?l_m_CP_code ?c_m_CP_code ?k_m_CP_code ?a_m_CP_line ?i_m_CP_line ?l_m_CP_line ?c_m_CP_line ?k_m_CP_line ?a_g_limits_of ?l_g_limits_of ?c_g_limits_of ?k_g_limits_of ?a_g_is_value ?l_g_is_value ?c_g_is_value ?k_g_is_value ?a_g_is_part ?l_g_is_part ?c_g_is_part ?k_g_is_part ?a_g_is_line ?l_g_is_line ?c_g_is_line ?k_g_is_line ?a_g_begin ?l_g_begin ?c_g_begin ?k_g_begin ?a_g_ended ?l_g_ended ?c_g_ended ?k_g_ended ?a_g_next_line ?l_g_next_line ?c_g_next_line ?k_g_next_line ?a_g_lets ?l_g_lets ?c_g_lets ?k_g_lets ?a_g_may_move ?l_g_may_move ?c_g_may_move ?k_g_may_move ?a_g_put ?l_g_put ?c_g_put ?k_g_put ?a_g_value_of ?l_g_value_of ?c_g_value_of ?k_g_value_of ?a_g_is_so ?l_g_is_so ?c_g_is_so ?k_g_is_so ?a_g_reckoned ?l_g_reckoned ?c_g_reckoned ?k_g_reckoned ?a_g_number_behind ?l_g_number_behind ?c_g_number_behind ?k_g_number_behind ?a_g_own_behind ?l_g_own_behind ?c_g_own_behind ?k_g_own_behind ?a_g_values_behind ?l_g_values_behind ?c_g_values_behind ?k_g_values_behind ?a_g_holders_behind ?l_g_holders_behind ?c_g_holders_behind ?k_g_holders_behind ?a_g_awake_behind ?l_g_awake_behind ?c_g_awake_behind ?k_g_awake_behind ?a_g_moved ?l_g_moved ?c_g_moved ?k_g_moved ?a_g_deed_of ?l_g_deed_of ?c_g_deed_of ?k_g_deed_of ?a_g_run ?l_g_run ?c_g_run ?k_g_run ?a_g_law_cell_at ?l_g_law_cell_at ?c_g_law_cell_at ?k_g_law_cell_at ?a_g_law_value ?l_g_law_value ?c_g_law_value ?k_g_law_value ?a_g_law_line ?l_g_law_line ?c_g_law_line ?k_g_law_line ?a_g_law_codes ?l_g_law_codes ?c_g_law_codes ?k_g_law_codes ?a_g_law_firsts ?l_g_law_firsts ?c_g_law_firsts ?k_g_law_firsts ?a_g_law_may ?l_g_law_may ?c_g_law_may ?k_g_law_may ?a_g_law_asked ?l_g_law_asked ?c_g_law_asked ?k_g_law_asked ?a_g_law_refused ?l_g_law_refused ?c_g_law_refused ?k_g_law_refused ?a_g_law_wrong ?l_g_law_wrong ?c_g_law_wrong ?k_g_law_wrong ?a_g_law ?l_g_law ?c_g_law ?k_g_law ?n_aS ?l_aS ?n_aT ?l_aT ?n_OWN_NAMES ?n_LOCKS ?n_MOST_LINES ?n_MOST_NAMES ?n_MOST_THREADS ?pg_CP ?hd_CP ?po_CP ?sa_CP ?mk_CP ?kc_CP ?nf_CP_many ?nf_CP_names ?nf_CP_firsts ?nf_CP_codes ?n_aP ?l_aP ?s_aP ?l_q0 ?l_q1 ?l_q2 ?l_q3 ?l_q4 ?l_q5 ?l_q6 ?l_q7 ?x_N ?x_E ?x_1 ?x_2 ?x_3 ?x_4 ?x_5 ?x_6 ?x_7 ?x_exc ?ga_CN ?gt_CN ?ca_CN ?mo_CN ?mb_CN ?ga_CE ?gt_CE ?ca_CE ?mo_CE ?mb_CE ?x_cg ?x_ct ?x_ty ?x_up ?x_isV ?x_k1 ?x_k2 ?x_k3 ?x_k4 ?x_k5 ?x_k6 ?x_k7 ?z_len ?z_range ?z_isinstance ?z_int ?z_bool ?z_tuple ?z_list ?z_zip ?z_all ?z_ValueError
    (case a_CP => first | k_is | k_exc | kit_is | rfl | decide)
    (case a_m_CP_init => first | k_is | k_exc | kit_is | rfl | decide)
    (case i_m_CP_init => first | k_is | k_exc | kit_is | rfl | decide)
    (case l_m_CP_init => first | k_is | k_exc | kit_is | rfl | decide)
    (case c_m_CP_init => first | k_is | k_exc | kit_is | rfl | decide)
    (case k_m_CP_init => first | k_is | k_exc | kit_is | rfl | decide)
    (case a_m_CP_first_values => first | k_is | k_exc | kit_is | rfl | decide)
    (case i_m_CP_first_values => first | k_is | k_exc | kit_is | rfl | decide)
    (case l_m_CP_first_values => first | k_is | k_exc | kit_is | rfl | decide)
    (case c_m_CP_first_values => first | k_is | k_exc | kit_is | rfl | decide)
    (case k_m_CP_first_values => first | k_is | k_exc | kit_is | rfl | decide)
    (case a_m_CP_code => first | k_is | k_exc | kit_is | rfl | decide)
    (case i_m_CP_code => first | k_is | k_exc | kit_is | rfl | decide)
    (case l_m_CP_code => first | k_is | k_exc | kit_is | rfl | decide)
    (case c_m_CP_code => first | k_is | k_exc | kit_is | rfl | decide)
    (case k_m_CP_code => first | k_is | k_exc | kit_is | rfl | decide)
    (case a_m_CP_line => first | k_is | k_exc | kit_is | rfl | decide)
    (case i_m_CP_line => first | k_is | k_exc | kit_is | rfl | decide)
    (case l_m_CP_line => first | k_is | k_exc | kit_is | rfl | decide)
    (case c_m_CP_line => first | k_is | k_exc | kit_is | rfl | decide)
    (case k_m_CP_line => first | k_is | k_exc | kit_is | rfl | decide)
    (case a_g_limits_of => first | k_is | k_exc | kit_is | rfl | decide)
    (case l_g_limits_of => first | k_is | k_exc | kit_is | rfl | decide)
    (case c_g_limits_of => first | k_is | k_exc | kit_is | rfl | decide)
    (case k_g_limits_of => first | k_is | k_exc | kit_is | rfl | decide)
    (case a_g_is_value => first | k_is | k_exc | kit_is | rfl | decide)
    (case l_g_is_value => first | k_is | k_exc | kit_is | rfl | decide)
    (case c_g_is_value => first | k_is | k_exc | kit_is | rfl | decide)
    (case k_g_is_value => first | k_is | k_exc | kit_is | rfl | decide)
    (case a_g_is_part => first | k_is | k_exc | kit_is | rfl | decide)
    (case l_g_is_part => first | k_is | k_exc | kit_is | rfl | decide)
    (case c_g_is_part => first | k_is | k_exc | kit_is | rfl | decide)
    (case k_g_is_part => first | k_is | k_exc | kit_is | rfl | decide)
    (case a_g_is_line => first | k_is | k_exc | kit_is | rfl | decide)
    (case l_g_is_line => first | k_is | k_exc | kit_is | rfl | decide)
    (case c_g_is_line => first | k_is | k_exc | kit_is | rfl | decide)
    (case k_g_is_line => first | k_is | k_exc | kit_is | rfl | decide)
    (case a_g_begin => first | k_is | k_exc | kit_is | rfl | decide)
    (case l_g_begin => first | k_is | k_exc | kit_is | rfl | decide)
    (case c_g_begin => first | k_is | k_exc | kit_is | rfl | decide)
    (case k_g_begin => first | k_is | k_exc | kit_is | rfl | decide)
    (case a_g_ended => first | k_is | k_exc | kit_is | rfl | decide)
    (case l_g_ended => first | k_is | k_exc | kit_is | rfl | decide)
    (case c_g_ended => first | k_is | k_exc | kit_is | rfl | decide)
    (case k_g_ended => first | k_is | k_exc | kit_is | rfl | decide)
    (case a_g_next_line => first | k_is | k_exc | kit_is | rfl | decide)
    (case l_g_next_line => first | k_is | k_exc | kit_is | rfl | decide)
    (case c_g_next_line => first | k_is | k_exc | kit_is | rfl | decide)
    (case k_g_next_line => first | k_is | k_exc | kit_is | rfl | decide)
    (case a_g_lets => first | k_is | k_exc | kit_is | rfl | decide)
    (case l_g_lets => first | k_is | k_exc | kit_is | rfl | decide)
    (case c_g_lets => first | k_is | k_exc | kit_is | rfl | decide)
    (case k_g_lets => first | k_is | k_exc | kit_is | rfl | decide)
    (case a_g_may_move => first | k_is | k_exc | kit_is | rfl | decide)
    (case l_g_may_move => first | k_is | k_exc | kit_is | rfl | decide)
    (case c_g_may_move => first | k_is | k_exc | kit_is | rfl | decide)
    (case k_g_may_move => first | k_is | k_exc | kit_is | rfl | decide)
    (case a_g_put => first | k_is | k_exc | kit_is | rfl | decide)
    (case l_g_put => first | k_is | k_exc | kit_is | rfl | decide)
    (case c_g_put => first | k_is | k_exc | kit_is | rfl | decide)
    (case k_g_put => first | k_is | k_exc | kit_is | rfl | decide)
    (case a_g_value_of => first | k_is | k_exc | kit_is | rfl | decide)
    (case l_g_value_of => first | k_is | k_exc | kit_is | rfl | decide)
    (case c_g_value_of => first | k_is | k_exc | kit_is | rfl | decide)
    (case k_g_value_of => first | k_is | k_exc | kit_is | rfl | decide)
    (case a_g_is_so => first | k_is | k_exc | kit_is | rfl | decide)
    (case l_g_is_so => first | k_is | k_exc | kit_is | rfl | decide)
    (case c_g_is_so => first | k_is | k_exc | kit_is | rfl | decide)
    (case k_g_is_so => first | k_is | k_exc | kit_is | rfl | decide)
    (case a_g_reckoned => first | k_is | k_exc | kit_is | rfl | decide)
    (case l_g_reckoned => first | k_is | k_exc | kit_is | rfl | decide)
    (case c_g_reckoned => first | k_is | k_exc | kit_is | rfl | decide)
    (case k_g_reckoned => first | k_is | k_exc | kit_is | rfl | decide)
    (case a_g_number_behind => first | k_is | k_exc | kit_is | rfl | decide)
    (case l_g_number_behind => first | k_is | k_exc | kit_is | rfl | decide)
    (case c_g_number_behind => first | k_is | k_exc | kit_is | rfl | decide)
    (case k_g_number_behind => first | k_is | k_exc | kit_is | rfl | decide)
    (case a_g_own_behind => first | k_is | k_exc | kit_is | rfl | decide)
    (case l_g_own_behind => first | k_is | k_exc | kit_is | rfl | decide)
    (case c_g_own_behind => first | k_is | k_exc | kit_is | rfl | decide)
    (case k_g_own_behind => first | k_is | k_exc | kit_is | rfl | decide)
    (case a_g_values_behind => first | k_is | k_exc | kit_is | rfl | decide)
    (case l_g_values_behind => first | k_is | k_exc | kit_is | rfl | decide)
    (case c_g_values_behind => first | k_is | k_exc | kit_is | rfl | decide)
    (case k_g_values_behind => first | k_is | k_exc | kit_is | rfl | decide)
    (case a_g_holders_behind => first | k_is | k_exc | kit_is | rfl | decide)
    (case l_g_holders_behind => first | k_is | k_exc | kit_is | rfl | decide)
    (case c_g_holders_behind => first | k_is | k_exc | kit_is | rfl | decide)
    (case k_g_holders_behind => first | k_is | k_exc | kit_is | rfl | decide)
    (case a_g_awake_behind => first | k_is | k_exc | kit_is | rfl | decide)
    (case l_g_awake_behind => first | k_is | k_exc | kit_is | rfl | decide)
    (case c_g_awake_behind => first | k_is | k_exc | kit_is | rfl | decide)
    (case k_g_awake_behind => first | k_is | k_exc | kit_is | rfl | decide)
    (case a_g_moved => first | k_is | k_exc | kit_is | rfl | decide)
    (case l_g_moved => first | k_is | k_exc | kit_is | rfl | decide)
    (case c_g_moved => first | k_is | k_exc | kit_is | rfl | decide)
    (case k_g_moved => first | k_is | k_exc | kit_is | rfl | decide)
    (case a_g_deed_of => first | k_is | k_exc | kit_is | rfl | decide)
    (case l_g_deed_of => first | k_is | k_exc | kit_is | rfl | decide)
    (case c_g_deed_of => first | k_is | k_exc | kit_is | rfl | decide)
    (case k_g_deed_of => first | k_is | k_exc | kit_is | rfl | decide)
    (case a_g_run => first | k_is | k_exc | kit_is | rfl | decide)
    (case l_g_run => first | k_is | k_exc | kit_is | rfl | decide)
    (case c_g_run => first | k_is | k_exc | kit_is | rfl | decide)
    (case k_g_run => first | k_is | k_exc | kit_is | rfl | decide)
    (case a_g_law_cell_at => first | k_is | k_exc | kit_is | rfl | decide)
    (case l_g_law_cell_at => first | k_is | k_exc | kit_is | rfl | decide)
    (case c_g_law_cell_at => first | k_is | k_exc | kit_is | rfl | decide)
    (case k_g_law_cell_at => first | k_is | k_exc | kit_is | rfl | decide)
    (case a_g_law_value => first | k_is | k_exc | kit_is | rfl | decide)
    (case l_g_law_value => first | k_is | k_exc | kit_is | rfl | decide)
    (case c_g_law_value => first | k_is | k_exc | kit_is | rfl | decide)
    (case k_g_law_value => first | k_is | k_exc | kit_is | rfl | decide)
    (case a_g_law_line => first | k_is | k_exc | kit_is | rfl | decide)
    (case l_g_law_line => first | k_is | k_exc | kit_is | rfl | decide)
    (case c_g_law_line => first | k_is | k_exc | kit_is | rfl | decide)
    (case k_g_law_line => first | k_is | k_exc | kit_is | rfl | decide)
    (case a_g_law_codes => first | k_is | k_exc | kit_is | rfl | decide)
    (case l_g_law_codes => first | k_is | k_exc | kit_is | rfl | decide)
    (case c_g_law_codes => first | k_is | k_exc | kit_is | rfl | decide)
    (case k_g_law_codes => first | k_is | k_exc | kit_is | rfl | decide)
    (case a_g_law_firsts => first | k_is | k_exc | kit_is | rfl | decide)
    (case l_g_law_firsts => first | k_is | k_exc | kit_is | rfl | decide)
    (case c_g_law_firsts => first | k_is | k_exc | kit_is | rfl | decide)
    (case k_g_law_firsts => first | k_is | k_exc | kit_is | rfl | decide)
    (case a_g_law_may => first | k_is | k_exc | kit_is | rfl | decide)
    (case l_g_law_may => first | k_is | k_exc | kit_is | rfl | decide)
    (case c_g_law_may => first | k_is | k_exc | kit_is | rfl | decide)
    (case k_g_law_may => first | k_is | k_exc | kit_is | rfl | decide)
    (case a_g_law_asked => first | k_is | k_exc | kit_is | rfl | decide)
    (case l_g_law_asked => first | k_is | k_exc | kit_is | rfl | decide)
    (case c_g_law_asked => first | k_is | k_exc | kit_is | rfl | decide)
    (case k_g_law_asked => first | k_is | k_exc | kit_is | rfl | decide)
    (case a_g_law_refused => first | k_is | k_exc | kit_is | rfl | decide)
    (case l_g_law_refused => first | k_is | k_exc | kit_is | rfl | decide)
    (case c_g_law_refused => first | k_is | k_exc | kit_is | rfl | decide)
    (case k_g_law_refused => first | k_is | k_exc | kit_is | rfl | decide)
    (case a_g_law_wrong => first | k_is | k_exc | kit_is | rfl | decide)
    (case l_g_law_wrong => first | k_is | k_exc | kit_is | rfl | decide)
    (case c_g_law_wrong => first | k_is | k_exc | kit_is | rfl | decide)
    (case k_g_law_wrong => first | k_is | k_exc | kit_is | rfl | decide)
    (case a_g_law => first | k_is | k_exc | kit_is | rfl | decide)
    (case l_g_law => first | k_is | k_exc | kit_is | rfl | decide)
    (case c_g_law => first | k_is | k_exc | kit_is | rfl | decide)
    (case k_g_law => first | k_is | k_exc | kit_is | rfl | decide)
    (case n_aS => first | k_is | k_exc | kit_is | rfl | decide)
    (case l_aS => first | k_is | k_exc | kit_is | rfl | decide)
    (case n_aT => first | k_is | k_exc | kit_is | rfl | decide)
    (case l_aT => first | k_is | k_exc | kit_is | rfl | decide)
    (case n_OWN_NAMES => first | k_is | k_exc | kit_is | rfl | decide)
    (case n_LOCKS => first | k_is | k_exc | kit_is | rfl | decide)
    (case n_MOST_LINES => first | k_is | k_exc | kit_is | rfl | decide)
    (case n_MOST_NAMES => first | k_is | k_exc | kit_is | rfl | decide)
    (case n_MOST_THREADS => first | k_is | k_exc | kit_is | rfl | decide)
    (case pg_CP => first | k_is | k_exc | kit_is | rfl | decide)
    (case hd_CP => first | k_is | k_exc | kit_is | rfl | decide)
    (case po_CP => first | k_is | k_exc | kit_is | rfl | decide)
    (case sa_CP => first | k_is | k_exc | kit_is | rfl | decide)
    (case mk_CP => first | k_is | k_exc | kit_is | rfl | decide)
    (case kc_CP => first | k_is | k_exc | kit_is | rfl | decide)
    (case nf_CP_many => first | k_is | k_exc | kit_is | rfl | decide)
    (case nf_CP_names => first | k_is | k_exc | kit_is | rfl | decide)
    (case nf_CP_firsts => first | k_is | k_exc | kit_is | rfl | decide)
    (case nf_CP_codes => first | k_is | k_exc | kit_is | rfl | decide)
    (case n_aP => first | k_is | k_exc | kit_is | rfl | decide)
    (case l_aP => first | k_is | k_exc | kit_is | rfl | decide)
    (case s_aP => first | k_is | k_exc | kit_is | rfl | decide)
    (case l_q0 => first | k_is | k_exc | kit_is | rfl | decide)
    (case l_q1 => first | k_is | k_exc | kit_is | rfl | decide)
    (case l_q2 => first | k_is | k_exc | kit_is | rfl | decide)
    (case l_q3 => first | k_is | k_exc | kit_is | rfl | decide)
    (case l_q4 => first | k_is | k_exc | kit_is | rfl | decide)
    (case l_q5 => first | k_is | k_exc | kit_is | rfl | decide)
    (case l_q6 => first | k_is | k_exc | kit_is | rfl | decide)
    (case l_q7 => first | k_is | k_exc | kit_is | rfl | decide)
    (case x_N => first | k_is | k_exc | kit_is | rfl | decide)
    (case x_E => first | k_is | k_exc | kit_is | rfl | decide)
    (case x_1 => first | k_is | k_exc | kit_is | rfl | decide)
    (case x_2 => first | k_is | k_exc | kit_is | rfl | decide)
    (case x_3 => first | k_is | k_exc | kit_is | rfl | decide)
    (case x_4 => first | k_is | k_exc | kit_is | rfl | decide)
    (case x_5 => first | k_is | k_exc | kit_is | rfl | decide)
    (case x_6 => first | k_is | k_exc | kit_is | rfl | decide)
    (case x_7 => first | k_is | k_exc | kit_is | rfl | decide)
    (case x_exc => first | k_is | k_exc | kit_is | rfl | decide)
    (case ga_CN => first | k_is | k_exc | kit_is | rfl | decide)
    (case gt_CN => first | k_is | k_exc | kit_is | rfl | decide)
    (case ca_CN => first | k_is | k_exc | kit_is | rfl | decide)
    (case mo_CN => first | k_is | k_exc | kit_is | rfl | decide)
    (case mb_CN => first | k_is | k_exc | kit_is | rfl | decide)
    (case ga_CE => first | k_is | k_exc | kit_is | rfl | decide)
    (case gt_CE => first | k_is | k_exc | kit_is | rfl | decide)
    (case ca_CE => first | k_is | k_exc | kit_is | rfl | decide)
    (case mo_CE => first | k_is | k_exc | kit_is | rfl | decide)
    (case mb_CE => first | k_is | k_exc | kit_is | rfl | decide)
    (case x_cg => first | k_is | k_exc | kit_is | rfl | decide)
    (case x_ct => first | k_is | k_exc | kit_is | rfl | decide)
    (case x_ty => first | k_is | k_exc | kit_is | rfl | decide)
    (case x_up => first | k_is | k_exc | kit_is | rfl | decide)
    (case x_isV => first | k_is | k_exc | kit_is | rfl | decide)
    (case x_k1 => first | k_is | k_exc | kit_is | rfl | decide)
    (case x_k2 => first | k_is | k_exc | kit_is | rfl | decide)
    (case x_k3 => first | k_is | k_exc | kit_is | rfl | decide)
    (case x_k4 => first | k_is | k_exc | kit_is | rfl | decide)
    (case x_k5 => first | k_is | k_exc | kit_is | rfl | decide)
    (case x_k6 => first | k_is | k_exc | kit_is | rfl | decide)
    (case x_k7 => first | k_is | k_exc | kit_is | rfl | decide)
    (case z_len => first | k_is | k_exc | kit_is | rfl | decide)
    (case z_range => first | k_is | k_exc | kit_is | rfl | decide)
    (case z_isinstance => first | k_is | k_exc | kit_is | rfl | decide)
    (case z_int => first | k_is | k_exc | kit_is | rfl | decide)
    (case z_bool => first | k_is | k_exc | kit_is | rfl | decide)
    (case z_tuple => first | k_is | k_exc | kit_is | rfl | decide)
    (case z_list => first | k_is | k_exc | kit_is | rfl | decide)
    (case z_zip => first | k_is | k_exc | kit_is | rfl | decide)
    (case z_all => first | k_is | k_exc | kit_is | rfl | decide)
    (case z_ValueError => first | k_is | k_exc | kit_is | rfl | decide)
#print axioms PySem.Challenge.cw_racewise_k24_moves_refused_holds
