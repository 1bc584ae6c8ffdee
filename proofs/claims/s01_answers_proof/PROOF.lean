import PyProof.Rows.All
import Wide.All
import OpenK.AllK
import Wide.FinOn
import PyProof.EqAt
import PyProof.EqKinds
import PyProof.TupleCall
import Open.SpecLaws
import KE.OsHead
import KE.OsGo
import KE.BitLaws
import PySem.Challenge.RW_radiofood_s01_answers
section
set_option Elab.async false
set_option linter.all false
set_option maxRecDepth 100000
namespace L2
open PySem PySem.Spec PyProof.Rows
abbrev Key := Sum Int Str
def keyIs : Key → Value → Bool
  | .inl k, v => Value.isInt k v
  | .inr x, v => Value.isStrOf x v
def keyH (w : World) : Key → Int
  | .inl k => hashInt k
  | .inr x => hashStr w x
theorem keyIs_shape : ∀ {k : Key} {v : Value}, keyIs k v = true → (∃ i t, k = Sum.inl i ∧ v = Value.int i t) ∨ (∃ x t, k = Sum.inr x ∧ v = Value.str x t)
  | .inl i, v, h => by
    obtain ⟨t, e⟩ := Value.isInt_shape (k := i) (v := v) h
    exact .inl ⟨i, t, rfl, e⟩
  | .inr x, v, h => by
    obtain ⟨t, e⟩ := Value.isStrOf_shape (x := x) (v := v) h
    exact .inr ⟨x, t, rfl, e⟩
theorem key_ll (a b : Int) : decide ((Sum.inl a : Key) = Sum.inl b) = (a == b) := by
  by_cases e : a = b
  · subst e; simp
  · have h : ¬ (Sum.inl a : Key) = Sum.inl b := fun q => e (Sum.inl.inj q)
    rw [decide_eq_false h]
    exact (beq_eq_false_iff_ne.mpr e).symm
theorem key_rr (a b : Str) : decide ((Sum.inr a : Key) = Sum.inr b) = decide (a = b) := by
  by_cases e : a = b
  · subst e; simp
  · have h : ¬ (Sum.inr a : Key) = Sum.inr b := fun q => e (Sum.inr.inj q)
    rw [decide_eq_false h, decide_eq_false e]
theorem key_lr (a : Int) (b : Str) : decide ((Sum.inl a : Key) = Sum.inr b) = false := decide_eq_false (fun q => nomatch q)
theorem key_rl (a : Str) (b : Int) : decide ((Sum.inr a : Key) = Sum.inl b) = false := decide_eq_false (fun q => nomatch q)
def mixKind (prog : Program) (w : World) : PySem.KeyKind prog w Key where
  is := keyIs
  hash := keyH w
  inj := fun v a b ha hb => by
    rcases keyIs_shape ha with ⟨i, t, rfl, rfl⟩ | ⟨x, t, rfl, rfl⟩
    · rcases keyIs_shape hb with ⟨j, u, rfl, e⟩ | ⟨y, u, rfl, e⟩
      · injection e with e1 _; rw [e1]
      · exact nomatch e
    · rcases keyIs_shape hb with ⟨j, u, rfl, e⟩ | ⟨y, u, rfl, e⟩
      · exact nomatch e
      · injection e with e1 _; rw [e1]
  byValue := fun k v h => by
    rcases keyIs_shape h with ⟨i, t, rfl, rfl⟩ | ⟨x, t, rfl, rfl⟩ <;> rfl
  pyHash := fun hv h => by
    rcases keyIs_shape hv with ⟨i, t, rfl, rfl⟩ | ⟨x, t, rfl, rfl⟩
    · exact wpAny_pyHash_int h
    · exact wpAny_pyHash_str h
  eqBool := fun hu hv h => by
    rcases keyIs_shape hu with ⟨i, t, rfl, rfl⟩ | ⟨x, t, rfl, rfl⟩
    · rcases keyIs_shape hv with ⟨j, u, rfl, rfl⟩ | ⟨y, u, rfl, rfl⟩
      · rw [key_ll] at h; exact wpAny_eqBool_int h
      · rw [key_lr] at h; exact SeqAt.EqAt.int_str i t y u _ _ _ _ h
    · rcases keyIs_shape hv with ⟨j, u, rfl, rfl⟩ | ⟨y, u, rfl, rfl⟩
      · rw [key_rl] at h; exact SeqAt.EqAt.str_int x t j u _ _ _ _ h
      · rw [key_rr] at h; exact wpAny_eqBool_str h
  «strs» := fun k x t v h => by
    rcases keyIs_shape h with ⟨i, u, rfl, e⟩ | ⟨y, u, rfl, e⟩
    · exact nomatch e
    · injection e with e1 _
      subst e1
      cases v <;> rfl
end L2
namespace L2
open PySem PySem.Spec PyProof.Rows
inductive V where
  | non | bl (b : Bool) | int (i : Int) | str (x : Str) | byt (b : Array UInt8) | flt (b : UInt64) | ref (a : Addr) | ty (n : String)
  deriving DecidableEq
def RelV : V → Value → Prop
  | .non, u => u = Value.none
  | .bl b, u => u = Value.bool b
  | .int i, u => ∃ t, u = Value.int i t
  | .str x, u => ∃ t, u = Value.str x t
  | .byt b, u => ∃ t, u = Value.bytes b t
  | .flt b, u => ∃ t, u = Value.float b t
  | .ref a, u => u = Value.ref a
  | .ty n, u => u = Value.type n
abbrev Vals : List V → List Value → Prop := Paired RelV
theorem Vals.length {xs : List V} {us : List Value} (r : Vals xs us) : xs.length = us.length := Paired.length r
theorem Vals.get : ∀ {xs : List V} {us : List Value} {i : Nat} {x : V}, Vals xs us → xs[i]? = some x → ∃ u, us[i]? = some u ∧ RelV x u
  | _, _, _, _, .nil, e => by simp at e
  | _, _, 0, _, .cons r _, e => by simp at e; subst e; exact ⟨_, rfl, r⟩
  | _, _, i + 1, x, .cons _ t, e => by
    obtain ⟨u, h1, h2⟩ := Vals.get (i := i) (x := x) t (by simpa using e)
    exact ⟨u, by simpa using h1, h2⟩
theorem Vals.append : ∀ {xs ys : List V} {us ws : List Value}, Vals xs us → Vals ys ws → Vals (xs ++ ys) (us ++ ws)
  | _, _, _, _, .nil, s => s
  | _, _, _, _, .cons r t, s => .cons r (Vals.append t s)
theorem Vals.take : ∀ {xs : List V} {us : List Value} (n : Nat), Vals xs us → Vals (xs.take n) (us.take n)
  | _, _, 0, _ => .nil
  | _, _, _ + 1, .nil => .nil
  | _, _, n + 1, .cons r t => .cons r (Vals.take n t)
theorem Vals.drop : ∀ {xs : List V} {us : List Value} (n : Nat), Vals xs us → Vals (xs.drop n) (us.drop n)
  | _, _, 0, r => r
  | _, _, _ + 1, .nil => .nil
  | _, _, n + 1, .cons _ t => Vals.drop n t
def RelO : Option V → Option Value → Prop
  | some v, some u => RelV v u
  | none, none => True
  | _, _ => False
def KV {κ : Type} : List (κ × V) → List (κ × Value) → Prop := Paired fun (p : κ × V) (q : κ × Value) => p.1 = q.1 ∧ RelV p.2 q.2
def kV : Key → V
  | .inl i => .int i
  | .inr x => .str x
inductive HO where
  /-- a list -/
  | lst (xs : List V)
  /-- a tuple (never changes) -/
  | tup (xs : List V)
  /-- a dict whose keys are ints and texts; one whose keys are tuples of ints and texts (the empty one is both) -/
  | dK (kvs : List (Key × V)) | dT (kvs : List (List Key × V))
  /-- a set of ints: its members, its size -/
  | set (S : Int → Bool) (n : Nat)
  /-- an instance of the class at C, its dict at dx, its attributes -/
  | ins (C dx : Addr) (fs : List (Str × V))
  /-- the dict of the instance at x -/
  | own (x : Addr)
  /-- the dict of an exception -/
  | xd (fs : List (Str × V))
  /-- a bound method, f of x -/
  | met (f x : Addr)
  /-- a range object lo, lo + 1, .. below hi -/
  | rng (lo hi : Int)
  /-- a thing that is known to the object (the script; a dict while a loop walks it): read, never written while it is so -/
  | frz (o : Obj) (u : HO)
  /-- a code object's table -/
  | tbl (ps : Array Value)
  /-- any other thing, by what is true of its one object (a def of one's own: SetO a S n := HO.ext fun h => ..) -/
  | ext (φ : Heap → Prop)
abbrev Hp := Addr → Option HO
def upd (H : Hp) (a : Addr) (o : HO) : Hp := fun b => if b = a then some o else H b
theorem upd_same {H : Hp} {a : Addr} {o : HO} : upd H a o a = some o := by unfold upd; rw [if_pos rfl]
theorem upd_ne {H : Hp} {a b : Addr} {o : HO} (h : b ≠ a) : upd H a o b = H b := by unfold upd; rw [if_neg h]
theorem upd_upd {H : Hp} {a : Addr} {o u : HO} : upd (upd H a o) a u = upd H a u := by
  funext b; unfold upd; split <;> rfl
theorem ne_of {H : Hp} {a b : Addr} {o u : HO} (h : H a = some o) (h' : H b = some u) (d : o ≠ u) : a ≠ b := by
  intro e; subst e; rw [h] at h'; exact d (Option.some.inj h')
theorem ne_of_none {H : Hp} {a b : Addr} {o : HO} (h : H a = some o) (h' : H b = none) : a ≠ b := by
  intro e; subst e; rw [h] at h'; cases h'
section
variable (P : Program) (w : World)
def ObjOk (H : Hp) (h : Heap) (a : Addr) : HO → Prop
  | .lst xs => xs.length ≤ sizeLine ∧ ∃ (its : List Value) (n : Nat), Vals xs its ∧ h.get? a = some { cls := .type "list", data := .seq its.toArray n }
  | .tup xs => xs.length ≤ sizeLine ∧ ∃ its : List Value, Vals xs its ∧ IsTup h a its.toArray
  | .dK kvs => kvs.length ≤ sizeLine ∧ (a == sysModules) = false ∧ ∃ vs, KV kvs vs ∧ h.DictOf (mixKind P w) a vs
  | .dT kvs => kvs.length ≤ sizeLine ∧ (a == sysModules) = false ∧ ∃ xs : List (List Key × Addr × Value),
      Paired (fun (p : List Key × V) (q : List Key × Addr × Value) => p.1 = q.1 ∧ H q.2.1 = some (.tup (p.1.map kV)) ∧ RelV p.2 q.2.2) kvs xs ∧
      ∃ o es ep, h.get? a = some o ∧ o.ExactDict ∧ o.data = .dict es ep ∧ es.toList = xs.map (entryOfKey (tupleKind (mixKind P w))) ∧ (xs.map (·.1)).Nodup
  | .set S n => h.SetOf (intKind P w) a S n
  | .ins C dx fs => H dx = some (.own a) ∧ fs.length ≤ 1000 ∧ dx ≠ a ∧ h.get? a = some (PySem.W.instObj C dx) ∧
      ∃ mA, h.Ns1 dx mA ∧ (∀ f, RelO (fs.lookup f) (mA f)) ∧ PySem.Within mA (fs.map (·.1))
  | .own _ => ∃ o, h.get? a = some o
  | .xd fs => ∃ mA, h.Ns1 a mA ∧ ∀ f, RelO (fs.lookup f) (mA f)
  | .rng lo hi => ∃ t u v, h.get? a = some { cls := .type "range", data := .fields #[.int lo t, .int hi u, .int 1 v] }
  | .frz o u => h.get? a = some o ∧ ObjOk H h a u
  | .tbl ps => h.get? a = some { cls := .none, data := .fields ps }
  | .met f x => h.get? a = some (PySem.W.methodObj (.ref f) (.ref x))
  | .ext φ => φ h ∧ (∃ o, h.get? a = some o) ∧ ∀ h1 h2 : Heap, φ h1 → (∀ o, h1.get? a = some o → h2.get? a = some o) → φ h2
def HOk (H : Hp) (h : Heap) : Prop := ∀ a o, H a = some o → ObjOk P w H h a o
end
section
variable {P : Program} {w : World} {H H' : Hp} {h h' : Heap} {a : Addr} {o : HO}
theorem ObjOk.lt (x : ObjOk P w H h a o) : a < h.objs.size := by
  cases o with
  | lst xs => obtain ⟨_, _, _, _, e⟩ := x; exact Heap.lt_size e
  | tup xs => obtain ⟨_, _, _, p⟩ := x; exact p.lt
  | dK kvs => obtain ⟨_, _, _, _, o, _, _, e, _⟩ := x; exact Heap.lt_size e
  | dT kvs => obtain ⟨_, _, _, _, o, _, _, e, _⟩ := x; exact Heap.lt_size e
  | set S n => obtain ⟨o, _, _, _, e, _⟩ := x; exact Heap.lt_size e
  | ins C dx fs => obtain ⟨_, _, _, e, _⟩ := x; exact Heap.lt_size e
  | own y => obtain ⟨_, e⟩ := x; exact Heap.lt_size e
  | xd fs => obtain ⟨_, ⟨_, _, _, e, _⟩, _⟩ := x; exact Heap.lt_size e
  | rng lo hi => obtain ⟨_, _, _, e⟩ := x; exact Heap.lt_size e
  | frz ob u => obtain ⟨e, _⟩ := x; exact Heap.lt_size e
  | tbl ps => exact Heap.lt_size (show h.get? a = some _ from x)
  | met f y => exact Heap.lt_size (show h.get? a = some _ from x)
  | ext φ => obtain ⟨_, ⟨_, e⟩, _⟩ := x; exact Heap.lt_size e
theorem Paired.mapP {α β : Type} {F G : α → β → Prop} : ∀ {l₁ : List α} {l₂ : List β}, Paired F l₁ l₂ → (∀ a b, F a b → G a b) → Paired G l₁ l₂
  | _, _, .nil, _ => .nil
  | _, _, .cons r t, f => .cons (f _ _ r) (Paired.mapP t f)
theorem ObjOk.stay (x : ObjOk P w H h a o) (k : ∀ b u, (b = a ∨ H b = some (.own a)) → h.get? b = some u → h'.get? b = some u)
    (ho : ∀ b, H b = some (.own a) → H' b = some (.own a)) (ht : ∀ b xs, H b = some (.tup xs) → H' b = some (.tup xs)) : ObjOk P w H' h' a o := by
  induction o with
  | lst xs => obtain ⟨z, its, n, r, e⟩ := x; exact ⟨z, its, n, r, k _ _ (.inl rfl) e⟩
  | tup xs => obtain ⟨z, its, r, ob, e, c⟩ := x; exact ⟨z, its, r, ob, k _ _ (.inl rfl) e, c⟩
  | dK kvs => obtain ⟨z, y, vs, r, ob, es, ep, e, c⟩ := x; exact ⟨z, y, vs, r, ob, es, ep, k _ _ (.inl rfl) e, c⟩
  | dT kvs =>
    obtain ⟨z, y, xs, r, ob, es, ep, e, c⟩ := x
    exact ⟨z, y, xs, Paired.mapP r fun p q z => ⟨z.1, ht _ _ z.2.1, z.2.2⟩, ob, es, ep, k _ _ (.inl rfl) e, c⟩
  | set S n => obtain ⟨ob, es, ep, t, e, c⟩ := x; exact ⟨ob, es, ep, t, k _ _ (.inl rfl) e, c⟩
  | ins C dx fs =>
    obtain ⟨d, z, ne, e, mA, ⟨od, es, ep, e2, c⟩, r⟩ := x
    exact ⟨ho _ d, z, ne, k _ _ (.inl rfl) e, mA, ⟨od, es, ep, k _ _ (.inr d) e2, c⟩, r⟩
  | own y => obtain ⟨ob, e⟩ := x; exact ⟨ob, k _ _ (.inl rfl) e⟩
  | xd fs => obtain ⟨mA, ⟨od, es, ep, e, c⟩, r⟩ := x; exact ⟨mA, ⟨od, es, ep, k _ _ (.inl rfl) e, c⟩, r⟩
  | rng lo hi => obtain ⟨t, u, v, e⟩ := x; exact ⟨t, u, v, k _ _ (.inl rfl) e⟩
  | frz ob u ih => obtain ⟨e, q⟩ := x; exact ⟨k _ _ (.inl rfl) e, ih q⟩
  | tbl ps =>
    have e : h.get? a = some { cls := .none, data := .fields ps } := x
    show h'.get? a = some { cls := .none, data := .fields ps }
    exact k a _ (.inl rfl) e
  | met f y =>
    have e : h.get? a = some (PySem.W.methodObj (.ref f) (.ref y)) := x
    show h'.get? a = some (PySem.W.methodObj (.ref f) (.ref y))
    exact k a _ (.inl rfl) e
  | ext φ => obtain ⟨p, ⟨o, e⟩, st⟩ := x; exact ⟨st _ _ p fun o q => k _ _ (.inl rfl) q, ⟨o, k _ _ (.inl rfl) e⟩, st⟩
theorem HOk.lt (x : HOk P w H h) (e : H a = some o) : a < h.objs.size := (x a o e).lt
theorem HOk.fresh (x : HOk P w H h) (e : h.objs.size ≤ a) : H a = none := by
  cases q : H a with
  | none => rfl
  | some u => exact absurd (Nat.lt_of_lt_of_le (x.lt q) e) (Nat.lt_irrefl _)
theorem HOk.kept (x : HOk P w H h) (k : ∀ b u, h.get? b = some u → h'.get? b = some u) : HOk P w H h' := fun a o e =>
  (x a o e).stay (fun b u _ q => k b u q) (fun _ q => q) fun _ _ q => q
theorem HOk.laid (x : HOk P w H h) (k : ∀ b u, h.get? b = some u → h'.get? b = some u) (hp : h.objs.size ≤ a) (new : ObjOk P w (upd H a o) h' a o) : HOk P w (upd H a o) h' := fun b u e => by
  have hn := x.fresh hp
  by_cases hb : b = a
  · subst hb; rw [upd_same] at e; cases e; exact new
  · rw [upd_ne hb] at e
    exact (x b u e).stay (fun c v _ q => k c v q) (fun c q => by rw [upd_ne (ne_of_none q hn)]; exact q) fun c xs q => by rw [upd_ne (ne_of_none q hn)]; exact q
end
def Rd (H : Hp) (a : Addr) (u : HO) : Prop := H a = some u ∨ ∃ o, H a = some (.frz o u)
theorem Rd.ok {P : Program} {w : World} {H : Hp} {h : Heap} {a : Addr} {u : HO} (r : Rd H a u) (x : HOk P w H h) : ObjOk P w H h a u := by
  rcases r with r | ⟨o, r⟩
  · exact x a u r
  · obtain ⟨_, q⟩ := x a _ r
    exact q
def Mut : Option HO → Prop
  | some (.lst _) => True
  | some (.dK _) => True
  | some (.dT _) => True
  | some (.set _ _) => True
  | some (.ins _ _ _) => True
  | some (.ext _) => True
  | _ => False
section
variable {P : Program} {w : World} {H : Hp} {h h' : Heap} {x e : Addr} {o' : HO}
theorem HOk.write (ok : HOk P w H h) (mu : Mut (H x)) (he : e = x ∨ H e = some (.own x)) (k : ∀ b u, b ≠ e → h.get? b = some u → h'.get? b = some u) (heo : ∃ u, h'.get? e = some u)
    (new : ObjOk P w (upd H x o') h' x o') : HOk P w (upd H x o') h' := fun b u q => by
  have nown : ∀ c y, H c = some (.own y) → c ≠ x := fun c y r z => by subst z; rw [r] at mu; exact mu
  have ntup : ∀ c xs, H c = some (.tup xs) → c ≠ x := fun c xs r z => by subst z; rw [r] at mu; exact mu
  by_cases hb : b = x
  · subst hb; rw [upd_same] at q; cases q; exact new
  · rw [upd_ne hb] at q
    by_cases hbe : b = e
    · have q' : H b = some (.own x) := by
        rcases he with z | z
        · exact absurd (hbe.trans z) hb
        · rw [hbe]; exact z
      rw [q] at q'; cases q'
      obtain ⟨v, hv⟩ := heo
      exact ⟨v, by rw [hbe]; exact hv⟩
    · refine (ok b u q).stay (fun c v hc r => k c v ?_ r) (fun c r => by rw [upd_ne (nown c b r)]; exact r) fun c xs r => by rw [upd_ne (ntup c xs r)]; exact r
      rcases hc with rfl | hc
      · exact hbe
      · rintro rfl
        rcases he with z | z
        · exact nown c b hc z
        · rw [hc] at z; cases z; exact hb rfl
end
structure Un (fs ex : List Addr) (H H' : Hp) (h h' : Heap) : Prop where
  keep : ∀ b o, h.get? b = some o → H b = none → b ∉ fs → b ∉ ex → h'.get? b = some o
  slot : ∀ b o, h.get? b = some o → H b = none → b ∈ fs → b ∉ ex → ∃ sl, h'.get? b = some { o with slots := sl }
  free : ∀ b o, h.get? b = some o → H b = none → b ∉ ex → H' b = none
  there : ∀ b o, h.get? b = some o → b ∉ ex → ∃ o', h'.get? b = some o'
  tups : ∀ b xs, H b = some (.tup xs) → H' b = some (.tup xs)
  frzs : ∀ b o u, H b = some (.frz o u) → H' b = some (.frz o u)
  tbls : ∀ b ps, H b = some (.tbl ps) → ∃ more, H' b = some (.tbl (ps ++ more))
section
variable {fs fs' ex ex' : List Addr} {H H1 H2 : Hp} {h h1 h2 h' : Heap} {a x e : Addr} {o : HO}
theorem Un.any (u : Un fs ex H H1 h h1) {b : Addr} {ob : Obj} (q : h.get? b = some ob) (n : H b = none) (hx : b ∉ ex) : ∃ sl, h1.get? b = some { ob with slots := sl } := by
  by_cases hb : b ∈ fs
  · exact u.slot b ob q n hb hx
  · exact ⟨ob.slots, u.keep b ob q n hb hx⟩
theorem Un.kept (k : ∀ b u, h.get? b = some u → h'.get? b = some u) : Un fs ex H H h h' :=
  ⟨fun b ob q _ _ _ => k b ob q, fun b ob q _ _ _ => ⟨ob.slots, k b ob q⟩, fun _ _ _ n _ => n, fun b ob q _ => ⟨ob, k b ob q⟩, fun _ _ q => q, fun _ _ _ q => q, fun _ ps q => ⟨#[], by rw [q]; simp⟩⟩
theorem Un.refl : Un fs ex H H h h := Un.kept fun _ _ q => q
theorem Un.laid (k : ∀ b u, h.get? b = some u → h'.get? b = some u) (hp : h.objs.size ≤ a) (hn : H a = none) : Un fs ex H (upd H a o) h h' where
  keep := fun b u q _ _ _ => k b u q
  slot := fun b u q _ _ _ => ⟨u.slots, k b u q⟩
  free := fun b u q n _ => by rw [upd_ne (Nat.ne_of_lt (Nat.lt_of_lt_of_le (Heap.lt_size q) hp))]; exact n
  there := fun b u q _ => ⟨u, k b u q⟩
  tups := fun b xs q => by rw [upd_ne (ne_of_none q hn)]; exact q
  frzs := fun b u xs q => by rw [upd_ne (ne_of_none q hn)]; exact q
  tbls := fun b ps q => ⟨#[], by rw [upd_ne (ne_of_none q hn), q]; simp⟩
theorem Un.write (mu : Mut (H x)) (he : e = x ∨ H e = some (.own x)) (k : ∀ b u, b ≠ e → h.get? b = some u → h'.get? b = some u) (heo : ∃ u, h'.get? e = some u) : Un fs ex H (upd H x o) h h' := by
  have hx : ∀ b, H b = none → b ≠ x := fun b n z => by subst z; rw [n] at mu; exact mu
  have hb : ∀ b, H b = none → b ≠ e := fun b n z => by
    subst z
    rcases he with r | r
    · exact hx b n r
    · rw [n] at r; cases r
  have hm : ∀ b u, H b = some u → ¬ Mut (some u) → b ≠ x := fun b u q nm z => by subst z; rw [q] at mu; exact nm mu
  refine ⟨fun b u q n _ _ => k b u (hb b n) q, fun b u q n _ _ => ⟨u.slots, k b u (hb b n) q⟩, fun b u q n _ => by rw [upd_ne (hx b n)]; exact n, fun b u q _ => ?_,
    fun b xs q => by rw [upd_ne (hm b _ q fun z => z)]; exact q, fun b u xs q => by rw [upd_ne (hm b _ q fun z => z)]; exact q, fun b ps q => ⟨#[], by rw [upd_ne (hm b _ q fun z => z), q]; simp⟩⟩
  by_cases hbe : b = e
  · subst hbe; exact heo
  · exact ⟨u, k b u hbe q⟩
end
def trk (h : Heap) (H : Hp) : List Addr := (List.range h.objs.size).filter fun a => (H a).isSome
def hidT (h : Heap) (H : Hp) : Heap := PySem.W.hideAll h (trk h H)
theorem hidT_size (h : Heap) (H : Hp) : (hidT h H).objs.size = h.objs.size := PySem.W.hideAll_size _ _
theorem hidT_get {h : Heap} {H : Hp} {b : Addr} {o : Obj} (e : h.get? b = some o) (n : H b = none) : (hidT h H).get? b = some o :=
  PySem.W.hideAll_get _ e fun hm => by
    have q : (H b).isSome = true := (List.mem_filter.mp hm).2
    rw [n] at q; simp at q
theorem of_hidT {h : Heap} {H : Hp} {b : Addr} {o : Obj} (e : (hidT h H).get? b = some o) : h.get? b = some o ∧ H b = none := by
  have e' : h.get? b = some o := PySem.W.of_hideAll (trk h H) e
  refine ⟨e', ?_⟩
  cases q : H b with
  | none => rfl
  | some x =>
    have hm : b ∈ trk h H := List.mem_filter.mpr ⟨List.mem_range.mpr (Heap.lt_size e'), by simp [q]⟩
    have z : (hidT h H).get? b = none := PySem.W.hideAll_none (trk h H) hm
    rw [z] at e; cases e
end L2
namespace L2
open PySem PySem.Spec PyProof.Rows
structure Mod (K : PySem.W.Frag) (mg : Str → Option Value) (base : Heap) : Prop where
  kin : K.In base
  glob : base.Ns mainGlobals mg
  blt : ∃ mb, base.Ns builtinsNs mb ∧ ∀ x : Str, x ≠ "__name__" → mb x = bootBuiltins x
  nolimit : base.NoLimit
structure Cx where
  prog : Program
  w : World
  K : PySem.W.Frag
  mg : Str → Option Value
  base : Heap
  A : Around
  N : List Str
  s_0 : Shared
  H_0 : Hp
  env : Env
  outer : List Env
  stack : List Env
  ex : List Addr
  fn : Str → Bool
  calm : Bool
  pn : List (Addr × Obj)
  xe : Value → Shared → Prop
def frs (l : List Env) : List Addr := l.filterMap (·.frame)
abbrev Cx.fs (X : Cx) : List Addr := frs X.outer
def Vis (sc : Scope) (x : Str) : Prop := sc.names.lookup x = some .local ∨ sc.names.lookup x = some .cell ∨ sc.names.lookup x = some .free
def Loc (sc : Scope) (x : Str) : Prop := sc.names.lookup x = some .local ∨ sc.names.lookup x = some .cell
def Look (env : Env) (h : Heap) (m : Str → Option Value) (x : Str) (u : Value) : Prop :=
  (env.kindOf x = some .local ∧ m x = some u) ∨ ((env.kindOf x = some .cell ∨ env.kindOf x = some .free) ∧ ∃ c, env.cells.lookup x = some c ∧ h.IsCell c (some u))
structure Cx.Ok (X : Cx) : Prop where
  mod : Mod X.K X.mg X.base
  kind : X.env.scope.kind = .function
  glob : X.env.globals = mainGlobals
  blt : X.env.builtins = builtinsNs
  above : X.s_0.heap.objs.size ≤ X.env.locals
  inj : ∀ x y c, X.env.cells.lookup x = some c → X.env.cells.lookup y = some c → x = y
  has : ∀ x, (X.env.kindOf x = some .cell ∨ X.env.kindOf x = some .free) → ∃ c, X.env.cells.lookup x = some c
  cab : ∀ x c, X.fn x = true → X.env.cells.lookup x = some c → X.s_0.heap.objs.size ≤ c
  hd : X.calm = true → X.A.handled = none
  frames : X.A.frames = some X.stack
  stk : X.stack = X.outer ∨ (X.stack = X.env :: X.outer ∧ X.env.frame = some X.env.locals)
  exf : ∀ b ∈ X.ex, b ≠ X.env.locals ∧ ∀ x c, X.env.cells.lookup x = some c → c ≠ b
  bs : ∀ b o, X.base.get? b = some o → X.s_0.heap.get? b = some o ∧ X.H_0 b = none
  bsz : X.base.objs.size ≤ X.s_0.heap.objs.size
  noex : ∀ b o, X.base.get? b = some o → b ∉ X.ex
  exfs : ∀ b ∈ X.ex, b ∉ X.fs
  funs : X.s_0.heap.FunFrames X.base X.outer
  frf : ∀ b ∈ X.fs, X.H_0 b = none
structure Inv (X : Cx) (pins : List (Addr × Obj)) (σ : List (Option V)) (H : Hp) (s : Shared) : Prop where
  ok : X.Ok
  os : s.os = X.s_0.os
  bare : AllBare s.gens
  base : Un X.fs X.ex X.H_0 H X.s_0.heap s.heap
  loc : ∃ m, s.heap.Ns X.env.locals m ∧ ∀ (i : Nat) (x : Str) (v : V), X.N[i]? = some x → σ[i]? = some (some v) → Vis X.env.scope x → ∃ u, RelV v u ∧ Look X.env s.heap m x u
  cell : ∀ x c, X.env.cells.lookup x = some c → ∃ v, s.heap.IsCell c v
  free : H X.env.locals = none
  freeC : ∀ x c, X.env.cells.lookup x = some c → H c = none
  pin : ∀ p ∈ X.pn ++ pins, s.heap.get? p.1 = some p.2 ∧ H p.1 = none ∧ p.1 ≠ X.env.locals ∧ p.1 ∉ X.fs ∧ ∀ v, p.2.data ≠ .cell v
  hok : HOk X.prog X.w H s.heap
  len : σ.length = X.N.length
section
variable {X : Cx} {pins : List (Addr × Obj)} {σ : List (Option V)} {H H' : Hp} {s : Shared} {h' : Heap}
theorem Cx.Ok.nofr (ok : X.Ok) {b : Addr} {o : Obj} (e : X.base.get? b = some o) : b ∉ X.fs := fun hb => by
  have := (ok.funs.mem hb).1
  rw [e] at this; cases this
theorem Inv.bs (I : Inv X pins σ H s) : ∀ b o, X.base.get? b = some o → s.heap.get? b = some o ∧ H b = none := fun b o e =>
  ⟨I.base.keep b o (I.ok.bs b o e).1 (I.ok.bs b o e).2 (I.ok.nofr e) (I.ok.noex b o e), I.base.free b o (I.ok.bs b o e).1 (I.ok.bs b o e).2 (I.ok.noex b o e)⟩
theorem Inv.bk (I : Inv X pins σ H s) : ∀ b o, X.base.get? b = some o → s.heap.get? b = some o := fun b o e => (I.bs b o e).1
theorem Inv.mod (I : Inv X pins σ H s) : Mod X.K X.mg X.base := I.ok.mod
theorem Inv.kIn (I : Inv X pins σ H s) : X.K.In s.heap := I.ok.mod.kin.keeps I.bk
theorem Inv.lt (I : Inv X pins σ H s) : X.env.locals < s.heap.objs.size := let ⟨_, hn, _⟩ := I.loc; hn.lt
theorem Inv.sz (I : Inv X pins σ H s) : X.s_0.heap.objs.size ≤ s.heap.objs.size := Nat.le_trans I.ok.above (Nat.le_of_lt I.lt)
theorem Inv.nofs (I : Inv X pins σ H s) {a : Addr} (h : s.heap.objs.size ≤ a) : a ∉ X.fs := fun hb => by
  obtain ⟨_, o, ho, _⟩ := I.ok.funs.mem hb
  exact absurd (Nat.lt_of_lt_of_le (Heap.lt_size ho) (Nat.le_trans I.sz h)) (Nat.lt_irrefl _)
theorem Inv.cne (I : Inv X pins σ H s) : ∀ x c, X.env.cells.lookup x = some c → c ≠ X.env.locals := fun x c e z => by
  obtain ⟨v, o, ho, hd⟩ := I.cell x c e
  obtain ⟨m, ⟨o', es, ep, ho', hd', _⟩, _⟩ := I.loc
  rw [z, ho'] at ho; cases ho; rw [hd'] at hd; cases hd
theorem Inv.funs (I : Inv X pins σ H s) : s.heap.FunFrames X.base X.outer := by
  have all : ∀ (l : List Env), (∀ b ∈ frs l, b ∈ X.fs) → X.s_0.heap.FunFrames X.base l → s.heap.FunFrames X.base l := by
    intro l
    induction l with
    | nil => intro _ _; trivial
    | cons env r ih =>
      intro hs hl
      obtain ⟨hk, ⟨L, o, hf, hn, ho, hd⟩, hr⟩ := hl
      have hL : L ∈ X.fs := hs L (by unfold frs; rw [List.filterMap_cons, hf]; exact List.mem_cons_self)
      obtain ⟨sl, e⟩ := I.base.slot L o ho (I.ok.frf L hL) hL fun z => I.ok.exfs L z hL
      exact ⟨hk, ⟨L, _, hf, hn, e, hd⟩, ih (fun b hb => hs b (by unfold frs; rw [List.filterMap_cons, hf]; exact List.mem_cons_of_mem _ hb)) hr⟩
  exact all X.outer (fun _ hb => hb) I.ok.funs
theorem Inv.stack (I : Inv X pins σ H s) : s.heap.FunFrames X.base X.stack := by
  rcases I.ok.stk with e | ⟨e, hf⟩
  · rw [e]; exact I.funs
  · rw [e]
    obtain ⟨m, hn, _⟩ := I.loc
    refine .cons (by rw [I.ok.kind]; decide) hf hn ?_ I.funs
    exact Heap.get?_none_of_le (Nat.le_trans I.ok.bsz I.ok.above)
theorem Inv.stkSub (I : Inv X pins σ H s) : ∀ b ∈ frs X.stack, b ∈ X.env.locals :: X.fs := fun b hb => by
  rcases I.ok.stk with e | ⟨e, hf⟩
  · rw [e] at hb; exact List.mem_cons_of_mem _ hb
  · rw [e] at hb
    unfold frs at hb
    rw [List.filterMap_cons, hf] at hb
    exact hb
theorem Inv.stkFree (I : Inv X pins σ H s) : ∀ b ∈ frs X.stack, H b = none := fun b hb => by
  rcases List.mem_cons.mp (I.stkSub b hb) with e | hb
  · rw [e]; exact I.free
  · obtain ⟨_, o, ho, _⟩ := I.ok.funs.mem hb
    exact I.base.free b o ho (I.ok.frf b hb) fun z => I.ok.exfs b z hb
theorem Inv.step {g' : Array GenState} {t' : Nat} {d' : Drawn} {ch : List Addr} (I : Inv X pins σ H s)
    (hch : ∀ b ∈ ch, (b ∈ X.ex ∨ X.s_0.heap.objs.size ≤ b) ∧ b ≠ X.env.locals ∧ (∀ x c, X.env.cells.lookup x = some c → c ≠ b) ∧ ∀ p ∈ X.pn ++ pins, p.1 ≠ b)
    (keep : ∀ b o, b ≠ X.env.locals → b ∉ X.fs → b ∉ ch → s.heap.get? b = some o → H b = none → h'.get? b = some o)
    (slot : ∀ b o, b ≠ X.env.locals → b ∈ X.fs → b ∉ ch → s.heap.get? b = some o → H b = none → ∃ sl, h'.get? b = some { o with slots := sl }) (free : ∀ b o, b ∉ ch → s.heap.get? b = some o → H b = none → H' b = none)
    (there : ∀ b o, b ∉ ch → s.heap.get? b = some o → ∃ o', h'.get? b = some o')
    (tups : ∀ b xs, H b = some (.tup xs) → H' b = some (.tup xs)) (frzs : ∀ b o u, H b = some (.frz o u) → H' b = some (.frz o u)) (tbls : ∀ b ps, H b = some (.tbl ps) → ∃ more, H' b = some (.tbl (ps ++ more)))
    (ns : ∀ m, s.heap.Ns X.env.locals m → h'.Ns X.env.locals m) (hok : HOk X.prog X.w H' h') (hg : AllBare g') :
    Inv X pins σ H' { s with heap := h', gens := g', drawn := d', toks := t' } := by
  have neL : ∀ b o, X.s_0.heap.get? b = some o → b ≠ X.env.locals := fun b o e => Nat.ne_of_lt (Nat.lt_of_lt_of_le (Heap.lt_size e) I.ok.above)
  have neC : ∀ b o, X.s_0.heap.get? b = some o → b ∉ X.ex → b ∉ ch := fun b o e hx hb => by
    rcases (hch b hb).1 with z | z
    · exact hx z
    · exact absurd (Nat.lt_of_lt_of_le (Heap.lt_size e) z) (Nat.lt_irrefl _)
  have cellK : ∀ x c, X.env.cells.lookup x = some c → ∀ v, s.heap.IsCell c v → h'.IsCell c v := fun x c e v ⟨o, ho, hd⟩ => by
    have nch : c ∉ ch := fun z => (hch c z).2.2.1 x c e rfl
    by_cases hc : c ∈ X.fs
    · obtain ⟨sl, q⟩ := slot c o (I.cne x c e) hc nch ho (I.freeC x c e)
      exact ⟨_, q, hd⟩
    · exact ⟨o, keep c o (I.cne x c e) hc nch ho (I.freeC x c e), hd⟩
  refine ⟨I.ok, I.os, hg, ⟨fun b o e n hb hx => ?_, fun b o e n hb hx => ?_, fun b o e n hx => ?_, fun b o e hx => ?_, fun b xs e => tups b xs (I.base.tups b xs e), fun b o xs e => frzs b o xs (I.base.frzs b o xs e), fun b ps e => ?_⟩, ?_, fun x c e => ?_, ?_, fun x c e => ?_, fun p hp => ?_, hok, I.len⟩
  · exact keep b o (neL b o e) hb (neC b o e hx) (I.base.keep b o e n hb hx) (I.base.free b o e n hx)
  · obtain ⟨sl, e1⟩ := I.base.slot b o e n hb hx
    obtain ⟨sl', e2⟩ := slot b _ (neL b o e) hb (neC b o e hx) e1 (I.base.free b o e n hx)
    exact ⟨sl', e2⟩
  · obtain ⟨o', e1⟩ := I.base.there b o e hx
    exact free b o' (neC b o e hx) e1 (I.base.free b o e n hx)
  · obtain ⟨o', e1⟩ := I.base.there b o e hx
    exact there b o' (neC b o e hx) e1
  · obtain ⟨m1, e1⟩ := I.base.tbls b ps e
    obtain ⟨m2, e2⟩ := tbls b _ e1
    exact ⟨m1 ++ m2, by rw [e2, Array.append_assoc]⟩
  · obtain ⟨m, hn, hl⟩ := I.loc
    refine ⟨m, ns m hn, fun i x v e1 e2 e3 => ?_⟩
    obtain ⟨u, r, l⟩ := hl i x v e1 e2 e3
    refine ⟨u, r, ?_⟩
    rcases l with l | ⟨k, c, e, z⟩
    · exact .inl l
    · exact .inr ⟨k, c, e, cellK x c e _ z⟩
  · obtain ⟨v, z⟩ := I.cell x c e
    exact ⟨v, cellK x c e v z⟩
  · obtain ⟨m, ⟨o, _, _, ho, _⟩, _⟩ := I.loc
    exact free _ o (fun z => (hch _ z).2.1 rfl) ho I.free
  · obtain ⟨v, o, ho, hd⟩ := I.cell x c e
    exact free c o (fun z => (hch c z).2.2.1 x c e rfl) ho (I.freeC x c e)
  · obtain ⟨e, n, ne, nf, d⟩ := I.pin p hp
    have nch : p.1 ∉ ch := fun z => (hch p.1 z).2.2.2 p hp rfl
    exact ⟨keep p.1 p.2 ne nf nch e n, free p.1 p.2 nch e n, ne, nf, d⟩
theorem Inv.un {t' : Nat} (I : Inv X pins σ H s) (u : Un X.fs [] H H' s.heap h') (hok : HOk X.prog X.w H' h') : Inv X pins σ H' { s with heap := h', toks := t' } := by
  obtain ⟨m, ⟨o, es, ep, ho, r⟩, _⟩ := id I.loc
  obtain ⟨sl, hL⟩ := u.any ho I.free (by simp)
  exact I.step (g' := s.gens) (d' := s.drawn) (ch := []) (fun _ z => nomatch z) (fun b o _ hb _ e n => u.keep b o e n hb (by simp)) (fun b o _ hb _ e n => u.slot b o e n hb (by simp)) (fun b o _ e n => u.free b o e n (by simp)) (fun b o _ e => u.there b o e (by simp)) u.tups u.frzs u.tbls (fun m' hm => by
    obtain ⟨o', es', ep', ho', r'⟩ := hm
    rw [ho] at ho'; cases ho'
    exact ⟨_, es', ep', hL, r'⟩) hok I.bare
theorem Inv.call {g' : Array GenState} {t' : Nat} {d' : Drawn} {ch : List Addr} (I : Inv X pins σ H s) (u : Un (frs X.stack) ch H H' s.heap h') (hok : HOk X.prog X.w H' h') (hg : AllBare g')
    (hch : ∀ b ∈ ch, (b ∈ X.ex ∨ X.s_0.heap.objs.size ≤ b) ∧ b ≠ X.env.locals ∧ (∀ x c, X.env.cells.lookup x = some c → c ≠ b) ∧ ∀ p ∈ X.pn ++ pins, p.1 ≠ b) :
    Inv X pins σ H' { s with heap := h', gens := g', drawn := d', toks := t' } := by
  obtain ⟨m, ⟨o, es, ep, ho, r⟩, _⟩ := id I.loc
  obtain ⟨sl, hL⟩ := u.any ho I.free fun z => (hch _ z).2.1 rfl
  exact I.step (ch := ch) hch (fun b o hL hb hc e n => u.keep b o e n (fun z => (List.mem_cons.mp (I.stkSub b z)).elim hL hb) hc) (fun b o _ _ hc e n => u.any e n hc) (fun b o hc e n => u.free b o e n hc) (fun b o hc e => u.there b o e hc) u.tups u.frzs u.tbls (fun m' hm => by
    obtain ⟨o', es', ep', ho', r'⟩ := hm
    rw [ho] at ho'; cases ho'
    exact ⟨_, es', ep', hL, r'⟩) hok hg
theorem Inv.turned {t' : Nat} {it : Addr} (I : Inv X pins σ H s) (k : ∀ b o, b ≠ it → s.heap.get? b = some o → h'.get? b = some o) (hn : H it = none) (hL : it ≠ X.env.locals)
    (h1 : it ∈ X.ex ∨ X.s_0.heap.objs.size ≤ it) (h2 : ∀ x c, X.env.cells.lookup x = some c → c ≠ it) (h3 : ∀ p ∈ X.pn ++ pins, p.1 ≠ it) : Inv X pins σ H { s with heap := h', toks := t' } := by
  have nit : ∀ b u, H b = some u → b ≠ it := fun b u e z => by rw [z, hn] at e; cases e
  refine I.step (g' := s.gens) (d' := s.drawn) (ch := [it]) (fun b hb => ?_) (fun b o _ _ hc e _ => k b o (fun z => hc (by simp [z])) e) (fun b o _ _ hc e _ => ⟨o.slots, k b o (fun z => hc (by simp [z])) e⟩) (fun _ _ _ _ n => n)
    (fun b o hc e => ⟨o, k b o (fun z => hc (by simp [z])) e⟩) (fun _ _ e => e) (fun _ _ _ e => e) (fun b ps e => ⟨#[], by rw [e]; simp⟩) (fun m hm => ?_) (fun b u e => ?_) I.bare
  · have e : b = it := by simpa using hb
    subst e
    exact ⟨h1, hL, h2, h3⟩
  · obtain ⟨o, es, ep, ho, r⟩ := hm
    exact ⟨o, es, ep, k _ o (Ne.symm hL) ho, r⟩
  · refine (I.hok b u e).stay (fun c v hc q => k c v ?_ q) (fun _ q => q) fun _ _ q => q
    rcases hc with z | z
    · rw [z]; exact nit b u e
    · exact nit c _ z
theorem Inv.tok (I : Inv X pins σ H s) (t : Nat) : Inv X pins σ H { s with toks := t } := I.un (h' := s.heap) (t' := t) Un.refl I.hok
theorem Inv.kept {t' : Nat} (I : Inv X pins σ H s) (k : ∀ b u, s.heap.get? b = some u → h'.get? b = some u) : Inv X pins σ H { s with heap := h', toks := t' } := I.un (Un.kept k) (I.hok.kept k)
theorem Inv.laid {a : Addr} {o : HO} {t' : Nat} (I : Inv X pins σ H s) (k : ∀ b u, s.heap.get? b = some u → h'.get? b = some u) (hp : s.heap.objs.size ≤ a) (new : ObjOk X.prog X.w (upd H a o) h' a o) :
    Inv X pins σ (upd H a o) { s with heap := h', toks := t' } := I.un (Un.laid k hp (I.hok.fresh hp)) (I.hok.laid k hp new)
theorem Inv.write {x e : Addr} {o : HO} {t' : Nat} (I : Inv X pins σ H s) (mu : Mut (H x)) (he : e = x ∨ H e = some (.own x)) (k : ∀ b u, b ≠ e → s.heap.get? b = some u → h'.get? b = some u) (heo : ∃ u, h'.get? e = some u)
    (new : ObjOk X.prog X.w (upd H x o) h' x o) : Inv X pins σ (upd H x o) { s with heap := h', toks := t' } := I.un (Un.write mu he k heo) (I.hok.write mu he k heo new)
theorem Inv.weak {σ' : List (Option V)} (I : Inv X pins σ H s) (hl : σ'.length = σ.length) (w : ∀ (i : Nat) v, σ'[i]? = some (some v) → σ[i]? = some (some v)) : Inv X pins σ' H s :=
  ⟨I.ok, I.os, I.bare, I.base, let ⟨m, hn, hl'⟩ := I.loc; ⟨m, hn, fun i x v e1 e2 e3 => hl' i x v e1 (w i v e2) e3⟩, I.cell, I.free, I.freeC, I.pin, I.hok, hl.trans I.len⟩
theorem Inv.pins_of {pins' : List (Addr × Obj)} (I : Inv X pins σ H s) (h : ∀ p ∈ pins', s.heap.get? p.1 = some p.2 ∧ H p.1 = none ∧ p.1 ≠ X.env.locals ∧ p.1 ∉ X.fs ∧ ∀ v, p.2.data ≠ .cell v) : Inv X pins' σ H s :=
  ⟨I.ok, I.os, I.bare, I.base, I.loc, I.cell, I.free, I.freeC, fun p hp => (List.mem_append.mp hp).elim (fun z => I.pin p (List.mem_append_left _ z)) (h p), I.hok, I.len⟩
theorem nodup_ix {N : List Str} (hN : N.Nodup) {i j : Nat} {x : Str} (a : N[i]? = some x) (b : N[j]? = some x) : i = j := by
  obtain ⟨h1, e1⟩ := List.getElem?_eq_some_iff.mp a
  obtain ⟨h2, e2⟩ := List.getElem?_eq_some_iff.mp b
  exact (List.getElem_inj hN).mp (e1.trans e2.symm)
theorem store_ok2 {M : Model} {A : Around} {E : Value → Shared → Prop} {i : Nat} {x : Str} {v : V} {u : Value} {Q : Unit → Shared → Prop} (I : Inv X pins σ H s) (hN : X.N.Nodup) (hi : X.N[i]? = some x) (hx : Loc X.env.scope x) (r : RelV v u)
    (h : ∀ s', Inv X pins (σ.set i (some v)) H s' → (∃ a, Heap.SameBut a s.heap s'.heap ∧ (a = X.env.locals ∨ X.env.cells.lookup x = some a)) → Q () s') (hf : X.fn x = true ∨ X.env.scope.names.lookup x = some .local := by first | exact .inl rfl | exact .inr rfl | assumption) : wpAny M A (storeName X.env x u) Q E s := by
  obtain ⟨m, hn, hl⟩ := id I.loc
  have hcls : (X.env.scope.kind == .class || (X.env.scope.kind == .module && X.env.locals != X.env.globals)) = false := by rw [I.ok.kind]; rfl
  have hiσ : i < σ.length := by rw [I.len]; exact (List.getElem?_eq_some_iff.mp hi).1
  have cne := I.cne
  have tracked : ∀ {a : Addr} {h' : Heap}, (∃ o, s.heap.get? a = some o ∧ H a = none) → Heap.SameBut a s.heap h' → HOk X.prog X.w H h' := fun {a h'} ha hs b ob e => by
    obtain ⟨_, _, hfree⟩ := ha
    refine (I.hok b ob e).stay (fun c w' hc q => (hs.2 c ?_).trans q) (fun _ q => q) fun _ _ q => q
    rintro rfl
    rcases hc with rfl | hc
    · rw [hfree] at e; cases e
    · rw [hfree] at hc; cases hc
  rcases hx with hk | hk
  · refine wpAny_storeName_local hk hn (fun h' hn' hs => ?_) hcls
    obtain ⟨oL, _, _, hoL, _⟩ := id hn
    refine h _ ⟨I.ok, I.os, I.bare, ⟨fun b o e n hb hx => ?_, fun b o e n hb hx => ?_, I.base.free, fun b o e hx => ?_, I.base.tups, I.base.frzs, I.base.tbls⟩, ⟨_, hn', fun j y v' e1 e2 e3 => ?_⟩, fun y c e => ?_, I.free, I.freeC, fun p hp => ?_, tracked ⟨oL, hoL, I.free⟩ hs, by simpa using I.len⟩ ⟨_, hs, .inl rfl⟩
    · exact (hs.2 b (Nat.ne_of_lt (Nat.lt_of_lt_of_le (Heap.lt_size e) I.ok.above))).trans (I.base.keep b o e n hb hx)
    · obtain ⟨sl, e1⟩ := I.base.slot b o e n hb hx
      exact ⟨sl, (hs.2 b (Nat.ne_of_lt (Nat.lt_of_lt_of_le (Heap.lt_size e) I.ok.above))).trans e1⟩
    · obtain ⟨o', e1⟩ := I.base.there b o e hx
      exact ⟨o', (hs.2 b (Nat.ne_of_lt (Nat.lt_of_lt_of_le (Heap.lt_size e) I.ok.above))).trans e1⟩
    · by_cases hj : j = i
      · subst hj
        rw [hi] at e1; cases e1
        rw [List.getElem?_set_self hiσ] at e2
        cases e2
        exact ⟨u, r, .inl ⟨hk, by simp⟩⟩
      · rw [List.getElem?_set_ne (Ne.symm hj)] at e2
        obtain ⟨u', r', q⟩ := hl j y v' e1 e2 e3
        refine ⟨u', r', ?_⟩
        rcases q with ⟨k, e⟩ | ⟨k, c, e, z⟩
        · refine .inl ⟨k, ?_⟩
          have : y ≠ x := fun e => hj (nodup_ix hN e1 (e ▸ hi))
          simp [this, e]
        · exact .inr ⟨k, c, e, z.sameBut hs (cne y c e)⟩
    · obtain ⟨w', z⟩ := I.cell y c e
      exact ⟨w', z.sameBut hs (cne y c e)⟩
    · obtain ⟨e, n, ne, nf, d⟩ := I.pin p hp
      exact ⟨(hs.2 p.1 ne).trans e, n, ne, nf, d⟩
  · have hfn : X.fn x = true := by
      rcases hf with z | z
      · exact z
      · rw [z] at hk; cases hk
    obtain ⟨c, hc⟩ := I.ok.has x (.inl hk)
    obtain ⟨w', z⟩ := I.cell x c hc
    refine wpAny_storeName_cell I.ok.kind hk hc z (fun h' hc' hs => ?_)
    obtain ⟨oc, hoc, hocd⟩ := id z
    refine h { s with heap := h' } ⟨I.ok, I.os, I.bare, ⟨fun b o e n hb hx => ?_, fun b o e n hb hx => ?_, I.base.free, fun b o e hx => ?_, I.base.tups, I.base.frzs, I.base.tbls⟩, ⟨m, hn.sameBut hs (Ne.symm (cne x c hc)), fun j y v' e1 e2 e3 => ?_⟩, fun y c' e => ?_, I.free, I.freeC, fun p hp => ?_, tracked ⟨oc, hoc, I.freeC x c hc⟩ hs, by simpa using I.len⟩ ⟨c, hs, .inr hc⟩
    · exact (hs.2 b (Nat.ne_of_lt (Nat.lt_of_lt_of_le (Heap.lt_size e) (I.ok.cab x c hfn hc)))).trans (I.base.keep b o e n hb hx)
    · obtain ⟨sl, e1⟩ := I.base.slot b o e n hb hx
      exact ⟨sl, (hs.2 b (Nat.ne_of_lt (Nat.lt_of_lt_of_le (Heap.lt_size e) (I.ok.cab x c hfn hc)))).trans e1⟩
    · obtain ⟨o', e1⟩ := I.base.there b o e hx
      exact ⟨o', (hs.2 b (Nat.ne_of_lt (Nat.lt_of_lt_of_le (Heap.lt_size e) (I.ok.cab x c hfn hc)))).trans e1⟩
    · by_cases hj : j = i
      · subst hj
        rw [hi] at e1; cases e1
        rw [List.getElem?_set_self hiσ] at e2
        cases e2
        exact ⟨u, r, .inr ⟨.inl hk, c, hc, hc'⟩⟩
      · rw [List.getElem?_set_ne (Ne.symm hj)] at e2
        obtain ⟨u', r', q⟩ := hl j y v' e1 e2 e3
        refine ⟨u', r', ?_⟩
        rcases q with q | ⟨k, c', e, z'⟩
        · exact .inl q
        · refine .inr ⟨k, c', e, z'.sameBut hs ?_⟩
          rintro rfl
          exact hj (nodup_ix hN e1 (I.ok.inj _ _ _ e hc ▸ hi))
    · by_cases hcc : c' = c
      · subst hcc; exact ⟨_, hc'⟩
      · obtain ⟨w2, z2⟩ := I.cell y c' e
        exact ⟨w2, z2.sameBut hs hcc⟩
    · obtain ⟨e, n, ne, nf, d⟩ := I.pin p hp
      refine ⟨(hs.2 p.1 ?_).trans e, n, ne, nf, d⟩
      intro q
      rw [q, hoc] at e
      have q' : oc = p.2 := Option.some.inj e
      exact d w' (by rw [← q']; exact hocd)
theorem store_ok {M : Model} {A : Around} {E : Value → Shared → Prop} {i : Nat} {x : Str} {v : V} {u : Value} {Q : Unit → Shared → Prop} (I : Inv X pins σ H s) (hN : X.N.Nodup) (hi : X.N[i]? = some x) (hx : Loc X.env.scope x) (r : RelV v u)
    (h : ∀ s', Inv X pins (σ.set i (some v)) H s' → Q () s') (hf : X.fn x = true ∨ X.env.scope.names.lookup x = some .local := by first | exact .inl rfl | exact .inr rfl | assumption) : wpAny M A (storeName X.env x u) Q E s :=
  store_ok2 I hN hi hx r (fun s' I' _ => h s' I') hf
theorem Inv.call' {s' : Shared} {ch : List Addr} (I : Inv X pins σ H s) (ho : s'.os = s.os) (u : Un (frs X.stack) ch H H' s.heap s'.heap) (hok : HOk X.prog X.w H' s'.heap) (hg : AllBare s'.gens)
    (hch : ∀ b ∈ ch, (b ∈ X.ex ∨ X.s_0.heap.objs.size ≤ b) ∧ b ≠ X.env.locals ∧ (∀ x c, X.env.cells.lookup x = some c → c ≠ b) ∧ ∀ p ∈ X.pn ++ pins, p.1 ≠ b) : Inv X pins σ H' s' := by
  obtain ⟨h', g', d', t', o'⟩ := s'
  have e : o' = s.os := ho
  subst e
  exact I.call (g' := g') (t' := t') (d' := d') u hok hg hch
end
abbrev XK := Value → Option Addr → Hp → Prop
abbrev St := List (Option V)
abbrev VK := V → Hp → Prop
abbrev TE := St → Hp → VK → Prop
abbrev TT := St → Hp → (Bool → Hp → Prop) → Prop
abbrev TA := St → Hp → (List V → Hp → Prop) → Prop
structure Ends where
  nx : St → Hp → Prop
  rt : VK
  bk : St → Hp → Prop := fun _ _ => False
  ct : St → Hp → Prop := fun _ _ => False
abbrev TS := Ends → St → Hp → Prop
def EP (X : Cx) (pins : List (Addr × Obj)) (σ : St) (Q : VK) (u : Value) (s' : Shared) : Prop := ∃ v H', Inv X pins σ H' s' ∧ RelV v u ∧ Q v H'
def TP (X : Cx) (pins : List (Addr × Obj)) (σ : St) (Q : Bool → Hp → Prop) (b : Bool) (s' : Shared) : Prop := ∃ H', Inv X pins σ H' s' ∧ Q b H'
def AP (X : Cx) (pins : List (Addr × Obj)) (σ : St) (Q : List V → Hp → Prop) (us : List Value) (s' : Shared) : Prop := ∃ vs H', Inv X pins σ H' s' ∧ Vals vs us ∧ Q vs H'
def SP (X : Cx) (pins : List (Addr × Obj)) (D : Ends) (f : Flow) (s' : Shared) : Prop :=
  match f with
  | .next => ∃ σ' H', Inv X pins σ' H' s' ∧ D.nx σ' H'
  | .brk => ∃ σ' H', Inv X pins σ' H' s' ∧ D.bk σ' H'
  | .cont => ∃ σ' H', Inv X pins σ' H' s' ∧ D.ct σ' H'
  | .ret u => ∃ v σ' H', Inv X pins σ' H' s' ∧ RelV v u ∧ D.rt v H'
def PE (X : Cx) (e : Expr) (t : TE) : Prop :=
  ∀ (pins : List (Addr × Obj)) (s : Shared) (σ : St) (H : Hp) (Q : VK), Inv X pins σ H s → t σ H Q → wpAny (model X.prog X.w) X.A (eval e X.env) (EP X pins σ Q) X.xe s
def PT (X : Cx) (e : Expr) (t : TT) : Prop :=
  ∀ (pins : List (Addr × Obj)) (s : Shared) (σ : St) (H : Hp) (Q : Bool → Hp → Prop), Inv X pins σ H s → t σ H Q → wpAny (model X.prog X.w) X.A (isTrue e X.env (eval e X.env)) (TP X pins σ Q) X.xe s
def PW (X : Cx) (e : Expr) (t : TT) : Prop :=
  ∀ (whole : Sem Value) (pins : List (Addr × Obj)) (s : Shared) (σ : St) (H : Hp) (Q : Bool → Hp → Prop), Inv X pins σ H s → t σ H Q → wpAny (model X.prog X.w) X.A (isTrue e X.env whole) (TP X pins σ Q) X.xe s
theorem PW.pt {X : Cx} {e : Expr} {t : TT} (h : PW X e t) : PT X e t := h _
def PA (X : Cx) (es : List Expr) (t : TA) : Prop :=
  ∀ (pos : Pos) (pins : List (Addr × Obj)) (s : Shared) (σ : St) (H : Hp) (Q : List V → Hp → Prop), Inv X pins σ H s → t σ H Q → wpAny (model X.prog X.w) X.A (spliced (backTo pos (starEach es X.env))) (AP X pins σ Q) X.xe s
def PS (X : Cx) (st : Stmt) (t : TS) : Prop :=
  ∀ (pins : List (Addr × Obj)) (s : Shared) (σ : St) (H : Hp) (D : Ends), Inv X pins σ H s → t D σ H → wpAny (model X.prog X.w) X.A (exec st X.env) (SP X pins D) X.xe s
def PSs (X : Cx) (st : List Stmt) (t : TS) : Prop :=
  ∀ (pins : List (Addr × Obj)) (s : Shared) (σ : St) (H : Hp) (D : Ends), Inv X pins σ H s → t D σ H → wpAny (model X.prog X.w) X.A (execs st X.env) (SP X pins D) X.xe s
theorem thn {α : Type} {t : Sem α} {Q Q' : α → Shared → Prop} {M : Model} {A : Around} {E : Value → Shared → Prop} {s : Shared} (h : wpAny M A t Q E s) (hQ : ∀ a s, Q a s → Q' a s) : wpAny M A t Q' E s := wpAny_mono h hQ fun _ _ x => x
end L2
namespace L2
open PySem PySem.Spec PyProof.Rows
section
variable {X : Cx}
def tVar (i : Nat) : TE := fun σ H Q => ∃ v, σ[i]? = some (some v) ∧ Q v H
def tC (v : V) : TE := fun _ H Q => Q v H
theorem pe_var {i : Nat} {x : Str} {pos : Pos} (hN : X.N[i]? = some x) (hv : Vis X.env.scope x) (hd : (x == ("__debug__" : Str)) = false := by decide) (hcd : (x == ("__classdict__" : Str)) = false := by decide) : PE X (.Name x pos) (tVar i) := by
  intro pins s σ H Q I h
  obtain ⟨v, e, h⟩ := h
  obtain ⟨m, hn, hl⟩ := I.loc
  obtain ⟨u, r, l⟩ := hl i x v hN e hv
  have fin : EP X pins σ Q u s := ⟨v, H, I, r, h⟩
  rcases l with ⟨hk, hm⟩ | ⟨hk, c, hc, hcell⟩
  · exact wpAny_Name (wpAny_loadName_local I.ok.kind hk hn hm fin) hd
  · rcases hk with hk | hk
    · exact wpAny_Name (wpAny_loadName_cell I.ok.kind hk hc hcell fin) hd
    · exact wpAny_Name (wpAny_loadName_free I.ok.kind hk hc hcell fin hcd) hd
theorem pe_int {i j pos} : PE X (.Constant (.int i) j pos) (tC (.int i)) := fun _ _ _ H _ I h => wpAny_Constant_int ⟨.int i, H, I.tok _, ⟨_, rfl⟩, h⟩
theorem pe_bl {b j pos} : PE X (.Constant (.bool b) j pos) (tC (.bl b)) := fun _ _ _ H _ I h => Constant_bool ⟨.bl b, H, I, rfl, h⟩
theorem pe_non {j pos} : PE X (.Constant .none j pos) (tC .non) := fun _ _ _ H _ I h => Constant_none ⟨.non, H, I, rfl, h⟩
def Gl (X : Cx) (x : Str) : Prop := X.env.kindOf x = some .globalImplicit
theorem ld_glob {E : Value → Shared → Prop} {pins : List (Addr × Obj)} {s : Shared} {σ : St} {H : Hp} {x : Str} {u : Value} {pos : Pos} {Q : Value → Shared → Prop} (I : Inv X pins σ H s) (hg : Gl X x) (hm : X.mg x = some u) (h : Q u s)
    (hd : (x == ("__debug__" : Str)) = false := by decide) : wpAny (model X.prog X.w) X.A (eval (.Name x pos) X.env) Q E s :=
  Calls.Name_function_global I.ok.kind hg (Calls.loadGlobal_global (by rw [I.ok.glob]; exact I.mod.glob.keeps I.bk) hm h) hd
theorem ld_blt {E : Value → Shared → Prop} {pins : List (Addr × Obj)} {s : Shared} {σ : St} {H : Hp} {x : Str} {u : Value} {pos : Pos} {Q : Value → Shared → Prop} (I : Inv X pins σ H s) (hg : Gl X x) (hm : X.mg x = none) (hv : bootBuiltins x = some u) (h : Q u s)
    (hn : x ≠ "__name__" := by decide) (hd : (x == ("__debug__" : Str)) = false := by decide) : wpAny (model X.prog X.w) X.A (eval (.Name x pos) X.env) Q E s := by
  obtain ⟨mb, h1, h2⟩ := I.mod.blt
  exact Calls.Name_function_global I.ok.kind hg (Calls.loadGlobal_builtin (by rw [I.ok.glob]; exact I.mod.glob.keeps I.bk) hm (by rw [I.ok.blt]; exact h1.keeps I.bk) ((h2 x hn).trans hv) h) hd
theorem pe_glob {x : Str} {v : V} {u : Value} {pos : Pos} (hg : Gl X x) (hm : X.mg x = some u) (r : RelV v u) (hd : (x == ("__debug__" : Str)) = false := by decide) : PE X (.Name x pos) (tC v) :=
  fun _ _ _ H _ I h => ld_glob I hg hm ⟨v, H, I, r, h⟩ hd
variable {a b : Expr} {ta tb : TE} {pos : Pos}
def PC (X : Cx) (op : CmpOp) (a b : Expr) (t : TE) : Prop :=
  ∀ (pins : List (Addr × Obj)) (s : Shared) (σ : St) (H : Hp) (Q : VK), Inv X pins σ H s → t σ H Q →
    wpAny (model X.prog X.w) X.A (eval a X.env) (fun v s₁ => wpAny (model X.prog X.w) X.A (eval b X.env) (fun u s₂ => wpAny (model X.prog X.w) X.A (compareOp op v u) (EP X pins σ Q) X.xe s₂) X.xe s₁) X.xe s
theorem nobehind (b : Expr) {op : CmpOp} (h : op ≠ .In) (h2 : op ≠ .NotIn) : behindInMarks op b = false := by
  have e1 : (op == CmpOp.In) = false := by cases op <;> first | rfl | exact absurd rfl h
  have e2 : (op == CmpOp.NotIn) = false := by cases op <;> first | rfl | exact absurd rfl h2
  cases b <;> simp [behindInMarks, e1, e2]
def tIsN (ta : TE) : TE := fun σ H Q => ta σ H fun x H1 => Q (.bl (decide (x = .non))) H1
def tNotN (ta : TE) : TE := fun σ H Q => ta σ H fun x H1 => Q (.bl (!decide (x = .non))) H1
theorem RelV.none_iff {x : V} {v : Value} (r : RelV x v) : (v == Value.none) = decide (x = .non) := by
  cases x with
  | non => cases r; rfl
  | bl _ => cases r; rfl
  | int _ => obtain ⟨t, rfl⟩ := r; rfl
  | str _ => obtain ⟨t, rfl⟩ := r; rfl
  | byt _ => obtain ⟨t, rfl⟩ := r; rfl
  | flt _ => obtain ⟨t, rfl⟩ := r; rfl
  | ref _ => cases r; rfl
  | ty _ => cases r; rfl
theorem pc_isN {j pos'} (ha : PE X a ta) : PC X .Is a (.Constant .none j pos') (tIsN ta) := by
  intro pins s σ H Q I h
  refine thn (ha pins s σ H _ I h) fun v s1 ⟨x, H1, I1, r1, q1⟩ => ?_
  exact Constant_none (is_none_gen ⟨.bl _, H1, I1, by rw [r1.none_iff]; rfl, q1⟩)
theorem pc_notN {j pos'} (ha : PE X a ta) : PC X .IsNot a (.Constant .none j pos') (tNotN ta) := by
  intro pins s σ H Q I h
  refine thn (ha pins s σ H _ I h) fun v s1 ⟨x, H1, I1, r1, q1⟩ => ?_
  exact Constant_none (isnot_none_gen ⟨.bl _, H1, I1, by rw [r1.none_iff]; rfl, q1⟩)
def tB (t : TE) : TT := fun σ H Q => t σ H fun x H1 => ∃ c, x = .bl c ∧ Q c H1
theorem pe_cmp {op : CmpOp} {t : TE} (h : PC X op a b t) (h1 : behindInMarks op b = false := by first | exact nobehind _ (by decide) (by decide) | rfl) : PE X (.Compare a [op] [b] pos) t := fun pins s σ H Q I hw => wpAny_Compare1 (h pins s σ H Q I hw) h1
theorem pt_cmp {op : CmpOp} {t : TE} (h : PC X op a b t) (h1 : behindInMarks op b = false := by first | exact nobehind _ (by decide) (by decide) | rfl) : PT X (.Compare a [op] [b] pos) (tB t) := by
  intro pins s σ H Q I hw
  refine wpAny_isTrue_Compare1 (thn (h pins s σ H _ I hw) fun v s1 h1 => thn h1 fun u s2 h2 => thn h2 fun c s3 ⟨x, H1, I1, r1, q1⟩ => ?_) h1
  obtain ⟨d, rfl, q⟩ := q1
  cases r1
  exact wpAny_truthy_bool ⟨H1, I1, q⟩
theorem pt_val {e : Expr} {t : TE} (h : PE X e t) (he : ∀ whole, isTrue e X.env whole = (do let v ← whole; standAt e.pos; holding [v] (truthy v)) := by intro _; rfl) : PT X e (tB t) := by
  intro pins s σ H Q I hw
  refine isTrue_plain (thn (h pins s σ H _ I hw) fun v s1 ⟨x, H1, I1, r1, q1⟩ => ?_) (he _)
  obtain ⟨d, rfl, q⟩ := q1
  cases r1
  exact wpAny_truthy_bool ⟨H1, I1, q⟩
variable {tA tB' : TT} {rest : List Expr}
def tAnd (t u : TT) : TT := fun σ H Q => t σ H fun c H1 => if c = true then u σ H1 Q else Q false H1
def tOr (t u : TT) : TT := fun σ H Q => t σ H fun c H1 => if c = true then Q true H1 else u σ H1 Q
def tNot (t : TT) : TT := fun σ H Q => t σ H fun c H1 => Q (!c) H1
theorem pw_and1 (ha : PT X a tA) : PW X (.BoolOp .And [a] pos) tA := by
  intro wh pins s σ H Q I h
  refine isTrue_and (thn (ha pins s σ H Q I h) fun c s1 e => ?_)
  cases c with
  | true => exact isTrue_and_nil e
  | false => exact e
theorem pw_or1 (ha : PT X a tA) : PW X (.BoolOp .Or [a] pos) tA := by
  intro wh pins s σ H Q I h
  refine isTrue_or (thn (ha pins s σ H Q I h) fun c s1 e => ?_)
  cases c with
  | false => exact isTrue_or_nil e
  | true => exact e
theorem pw_and (ha : PT X a tA) (hb : PW X (.BoolOp .And (b :: rest) pos) tB') : PW X (.BoolOp .And (a :: b :: rest) pos) (tAnd tA tB') := by
  intro wh pins s σ H Q I h
  refine isTrue_and (thn (ha pins s σ H _ I h) fun c s1 ⟨H1, I1, q1⟩ => ?_)
  cases c with
  | true => exact hb wh pins s1 σ H1 Q I1 q1
  | false => exact ⟨H1, I1, q1⟩
theorem pw_or (ha : PT X a tA) (hb : PW X (.BoolOp .Or (b :: rest) pos) tB') : PW X (.BoolOp .Or (a :: b :: rest) pos) (tOr tA tB') := by
  intro wh pins s σ H Q I h
  refine isTrue_or (thn (ha pins s σ H _ I h) fun c s1 ⟨H1, I1, q1⟩ => ?_)
  cases c with
  | true => exact ⟨H1, I1, q1⟩
  | false => exact hb wh pins s1 σ H1 Q I1 q1
theorem pt_not (ha : PT X a tA) : PT X (.UnaryOp .Not a pos) (tNot tA) := by
  intro pins s σ H Q I h
  exact isTrue_not (ha pins s σ H (fun c H1 => Q (!c) H1) I h)
def tOrV (ta tb : TE) : TE := fun σ H Q => ta σ H fun x H1 => ∃ c, x = .bl c ∧ if c = true then Q (.bl true) H1 else tb σ H1 Q
theorem pe_one {op} {t : TE} (h : PE X a t) : PE X (.BoolOp op [a] pos) t := fun pins s σ H Q I hw => BoolOp_one (h pins s σ H Q I hw)
theorem pe_or (ha : PE X a ta) (hb : PE X (.BoolOp .Or (b :: rest) pos) tb) : PE X (.BoolOp .Or (a :: b :: rest) pos) (tOrV ta tb) := by
  intro pins s σ H Q I h
  refine BoolOp_or (thn (ha pins s σ H _ I h) fun v s1 ⟨x, H1, I1, r1, q1⟩ => ?_)
  obtain ⟨c, rfl, q1⟩ := q1
  cases r1
  refine wpAny_truthy_bool ?_
  cases c with
  | false => exact hb pins s1 σ H1 Q I1 q1
  | true => exact ⟨.bl true, H1, I1, rfl, q1⟩
def tIf (t : TT) (ta tb : TE) : TE := fun σ H Q => t σ H fun c H1 => if c = true then ta σ H1 Q else tb σ H1 Q
theorem pe_ifExp {c : Expr} (hc : PT X c tA) (ha : PE X a ta) (hb : PE X b tb) : PE X (.IfExp c a b pos) (tIf tA ta tb) := by
  intro pins s σ H Q I h
  refine wpAny_IfExp (thn (hc pins s σ H _ I h) fun d s1 ⟨H1, I1, q1⟩ => ?_)
  cases d with
  | true => exact ha pins s1 σ H1 Q I1 q1
  | false => exact hb pins s1 σ H1 Q I1 q1
end
end L2
namespace L2
open PySem PySem.Spec PyProof.Rows
def SqL (K : PySem.W.Frag) (H : Hp) (a : Addr) (xs : List V) : Prop :=
  Rd H a (.lst xs) ∨
    ∃ (o : Obj) (its : Array Value) (n : Nat), K.lookup a = some o ∧ o.cls = .type "list" ∧ o.dict = none ∧ o.data = .seq its n ∧ its.size ≤ sizeLine ∧ Vals xs its.toList
def SqT (K : PySem.W.Frag) (H : Hp) (a : Addr) (xs : List V) : Prop :=
  Rd H a (.tup xs) ∨
    ∃ (o : Obj) (its : Array Value) (n : Nat), K.lookup a = some o ∧ o.cls = .type "tuple" ∧ o.data = .seq its n ∧ its.size ≤ sizeLine ∧ Vals xs its.toList
def absV : Value → Option V
  | .none => some .non
  | .bool b => some (.bl b)
  | .int i _ => some (.int i)
  | .str x _ => some (.str x)
  | .bytes b _ => some (.byt b)
  | .float b _ => some (.flt b)
  | .ref a => some (.ref a)
  | .type n => some (.ty n)
  | _ => none
theorem RelV.abs {x : V} {u : Value} (r : RelV x u) : absV u = some x := by
  cases x with
  | non => cases r; rfl
  | bl _ => cases r; rfl
  | int _ => obtain ⟨t, rfl⟩ := r; rfl
  | str _ => obtain ⟨t, rfl⟩ := r; rfl
  | byt _ => obtain ⟨t, rfl⟩ := r; rfl
  | flt _ => obtain ⟨t, rfl⟩ := r; rfl
  | ref _ => cases r; rfl
  | ty _ => cases r; rfl
theorem RelV.inj {x y : V} {u : Value} (r : RelV x u) (q : RelV y u) : x = y := Option.some.inj (r.abs.symm.trans q.abs)
theorem Vals.inj : ∀ {xs ys : List V} {us : List Value}, Vals xs us → Vals ys us → xs = ys
  | _, _, _, .nil, .nil => rfl
  | _, _, _, .cons r t, .cons r' t' => by rw [r.inj r', Vals.inj t t']
section
variable {X : Cx} {pins : List (Addr × Obj)} {σ : St} {H : Hp} {s : Shared} {a : Addr} {xs ys : List V}
theorem SqL.of {K : PySem.W.Frag} (h : H a = some (.lst xs)) : SqL K H a xs := .inl (.inl h)
theorem SqT.of {K : PySem.W.Frag} (h : H a = some (.tup xs)) : SqT K H a xs := .inl (.inl h)
theorem Inv.list (I : Inv X pins σ H s) (h : SqL X.K H a xs) : ∃ its : List Value, Vals xs its ∧ PlainL s.heap a its.toArray ∧ xs.length ≤ sizeLine := by
  rcases h with h | ⟨o, its, n, hk, hc, hd, hs, hz, r⟩
  · obtain ⟨z, its, n, r, e⟩ := h.ok I.hok
    exact ⟨its, r, ⟨_, n, e, rfl, rfl, rfl⟩, z⟩
  · refine ⟨its.toList, r, ⟨o, n, I.kIn a o hk, hc, hd, by simpa using hs⟩, ?_⟩
    have e := r.length
    simp only [Array.length_toList] at e
    omega
theorem Inv.tuple (I : Inv X pins σ H s) (h : SqT X.K H a xs) : ∃ its : List Value, Vals xs its ∧ IsTup s.heap a its.toArray ∧ xs.length ≤ sizeLine := by
  rcases h with h | ⟨o, its, n, hk, hc, hs, hz, r⟩
  · obtain ⟨z, its, r, p⟩ := h.ok I.hok
    exact ⟨its, r, p, z⟩
  · refine ⟨its.toList, r, ⟨o, I.kIn a o hk, hc, n, by simpa using hs⟩, ?_⟩
    have e := r.length
    simp only [Array.length_toList] at e
    omega
theorem Inv.list_inj (I : Inv X pins σ H s) (h : SqL X.K H a xs) (h' : SqL X.K H a ys) : xs = ys := by
  obtain ⟨its, r, ⟨o, n, e, _, _, d⟩, _⟩ := I.list h
  obtain ⟨its', r', ⟨o', n', e', _, _, d'⟩, _⟩ := I.list h'
  rw [e] at e'; cases e'
  rw [d] at d'
  injection d' with d1 _
  have : its = its' := by simpa using congrArg Array.toList d1
  subst this
  exact r.inj r'
theorem Inv.tuple_inj (I : Inv X pins σ H s) (h : SqT X.K H a xs) (h' : SqT X.K H a ys) : xs = ys := by
  obtain ⟨its, r, ⟨o, e, _, n, d⟩, _⟩ := I.tuple h
  obtain ⟨its', r', ⟨o', e', _, n', d'⟩, _⟩ := I.tuple h'
  rw [e] at e'; cases e'
  rw [d] at d'
  injection d' with d1 _
  have : its = its' := by simpa using congrArg Array.toList d1
  subst this
  exact r.inj r'
end
abbrev Cx.wish (X : Cx) (E : Value → Shared → Prop) : Cx := { X with xe := E }
abbrev Cx.nox (X : Cx) : Cx := X.wish fun _ _ => False
theorem Cx.Ok.wish {X : Cx} (ok : X.Ok) (E : Value → Shared → Prop) : (X.wish E).Ok :=
  ⟨ok.mod, ok.kind, ok.glob, ok.blt, ok.above, ok.inj, ok.has, ok.cab, ok.hd, ok.frames, ok.stk, ok.exf, ok.bs, ok.bsz, ok.noex, ok.exfs, ok.funs, ok.frf⟩
theorem Cx.Ok.unwish {X : Cx} {E : Value → Shared → Prop} (ok : (X.wish E).Ok) : X.Ok :=
  ⟨ok.mod, ok.kind, ok.glob, ok.blt, ok.above, ok.inj, ok.has, ok.cab, ok.hd, ok.frames, ok.stk, ok.exf, ok.bs, ok.bsz, ok.noex, ok.exfs, ok.funs, ok.frf⟩
section
variable {X : Cx} {pins : List (Addr × Obj)} {σ : St} {H : Hp} {s : Shared} {E : Value → Shared → Prop}
theorem Inv.wish (I : Inv X pins σ H s) (E : Value → Shared → Prop) : Inv (X.wish E) pins σ H s := ⟨I.ok.wish E, I.os, I.bare, I.base, I.loc, I.cell, I.free, I.freeC, I.pin, I.hok, I.len⟩
theorem Inv.unwish (I : Inv (X.wish E) pins σ H s) : Inv X pins σ H s := ⟨I.ok.unwish, I.os, I.bare, I.base, I.loc, I.cell, I.free, I.freeC, I.pin, I.hok, I.len⟩
theorem SP.unwish {D : Ends} {f : Flow} {s' : Shared} (h : SP (X.wish E) pins D f s') : SP X pins D f s' := by
  cases f with
  | next => obtain ⟨σ', H', I, q⟩ := h; exact ⟨σ', H', I.unwish, q⟩
  | brk => obtain ⟨σ', H', I, q⟩ := h; exact ⟨σ', H', I.unwish, q⟩
  | cont => obtain ⟨σ', H', I, q⟩ := h; exact ⟨σ', H', I.unwish, q⟩
  | ret u => obtain ⟨v, σ', H', I, r, q⟩ := h; exact ⟨v, σ', H', I.unwish, r, q⟩
theorem PSs.nox {st : List Stmt} {t : TS} (h : PSs X.nox st t) : PSs X st t := fun pins s σ H D I hw =>
  wpAny_mono (h pins s σ H D (I.wish _) hw) (fun _ _ q => q.unwish) fun _ _ z => False.elim z
end
section
variable {X : Cx} {st : Stmt} {rest : List Stmt} {t u : TS} {e : Expr} {te : TE} {pos : Pos}
def tNext : TS := fun D σ H => D.nx σ H
def tSeq (t u : TS) : TS := fun D σ H => t { D with nx := u D } σ H
theorem pss_nil : PSs X [] tNext := fun _ _ σ H _ I h => wpAny_execs_nil ⟨σ, H, I, h⟩
theorem pss_cons (h1 : PS X st t) (h2 : PSs X rest u) : PSs X (st :: rest) (tSeq t u) := by
  intro pins s σ H D I h
  refine wpAny_execs_cons (thn (h1 pins s σ H { D with nx := u D } I h) fun f s1 q => ?_)
  cases f with
  | next =>
    obtain ⟨σ', H', I', q⟩ := q
    exact h2 pins s1 σ' H' D I' q
  | ret v => exact q
  | brk => exact q
  | cont => exact q
theorem pss_one (h1 : PS X st t) : PSs X [st] t := by
  intro pins s σ H D I h
  refine wpAny_execs_cons (thn (h1 pins s σ H D I h) fun f s1 q => ?_)
  cases f with
  | next => exact wpAny_execs_nil q
  | ret v => exact q
  | brk => exact q
  | cont => exact q
theorem Inv.quiet {pins : List (Addr × Obj)} {σ : St} {H : Hp} {s : Shared} (I : Inv X pins σ H s) : interactive X.env = false := by simp [interactive, I.ok.kind]
def tDrop (te : TE) : TS := fun D σ H => te σ H fun _ H1 => D.nx σ H1
theorem ps_expr (he : PE X e te) (hs : swapsWith e none pos.line X.env = pure false := by rfl) : PS X (.Expr e pos) (tDrop te) := by
  intro pins s σ H D I h
  exact wpAny_Expr_any (thn (he pins s σ H _ I h) fun v s1 ⟨x, H1, I1, r1, q1⟩ => ⟨σ, H1, I1, q1⟩) I.quiet hs
def tRet (te : TE) : TS := fun D σ H => te σ H D.rt
theorem ps_ret (he : PE X e te) : PS X (.Return (some e) pos) (tRet te) := by
  intro pins s σ H D I h
  exact wpAny_Return_some (thn (he pins s σ H _ I h) fun v s1 ⟨x, H1, I1, r1, q1⟩ => ⟨x, σ, H1, I1, r1, q1⟩)
def tIfS (c : TT) (t u : TS) : TS := fun D σ H => c σ H fun b H1 => if b = true then t D σ H1 else u D σ H1
theorem ps_if {c : Expr} {a b : List Stmt} {tc : TT} (hc : PT X c tc) (ha : PSs X a t) (hb : PSs X b u) : PS X (.If c a b pos) (tIfS tc t u) := by
  intro pins s σ H D I h
  refine wpAny_If (thn (hc pins s σ H _ I h) fun d s1 ⟨H1, I1, q1⟩ => ?_)
  cases d with
  | true => exact ha pins s1 σ H1 D I1 q1
  | false => exact hb pins s1 σ H1 D I1 q1
end
abbrev TG := V → St → Hp → (St → Hp → Prop) → Prop
abbrev TGs := List V → St → Hp → (St → Hp → Prop) → Prop
def PG (X : Cx) (target : Expr) (t : TG) : Prop :=
  ∀ (pins : List (Addr × Obj)) (s : Shared) (σ : St) (H : Hp) (v : V) (u : Value) (Q : St → Hp → Prop), Inv X pins σ H s → RelV v u → t v σ H Q →
    wpAny (model X.prog X.w) X.A (assign target X.env u) (fun _ s' => ∃ σ' H', Inv X pins σ' H' s' ∧ Q σ' H') X.xe s
def PGs (X : Cx) (ts : List Expr) (t : TGs) : Prop :=
  ∀ (pins : List (Addr × Obj)) (s : Shared) (σ : St) (H : Hp) (vs : List V) (us : List Value) (Q : St → Hp → Prop), Inv X pins σ H s → Vals vs us → t vs σ H Q →
    wpAny (model X.prog X.w) X.A (assignInOrder ((assignEach ts X.env).map (·.2)) us) (fun _ s' => ∃ σ' H', Inv X pins σ' H' s' ∧ Q σ' H') X.xe s
abbrev TIp := V → V → Hp → VK → Prop
def PIp (X : Cx) (op : Operator) (t : TIp) : Prop :=
  ∀ (pins : List (Addr × Obj)) (s : Shared) (σ : St) (H : Hp) (x y : V) (v u : Value) (Q : VK), Inv X pins σ H s → RelV x v → RelV y u → t x y H Q →
    wpAny (model X.prog X.w) X.A (inplaceOp op v u) (EP X pins σ Q) X.xe s
section
variable {X : Cx} {pos : Pos}
def gName (i : Nat) : TG := fun v σ H Q => Q (σ.set i (some v)) H
theorem pg_name {i : Nat} {x : Str} (hN : X.N.Nodup) (hi : X.N[i]? = some x) (hx : Loc X.env.scope x) (hf : X.fn x = true ∨ X.env.scope.names.lookup x = some .local := by first | exact .inl rfl | exact .inr rfl | assumption) : PG X (.Name x pos) (gName i) := by
  intro pins s σ H v u Q I r h
  exact wpAny_assign_Name (store_ok I hN hi hx r (fun s' I' => ⟨_, H, I', h⟩) hf)
def gNil : TGs := fun vs σ H Q => vs = [] ∧ Q σ H
def gCons (t : TG) (u : TGs) : TGs := fun vs σ H Q => ∃ v r, vs = v :: r ∧ t v σ H fun σ' H' => u r σ' H' Q
theorem pgs_nil : PGs X [] gNil := by
  intro pins s σ H vs us Q I r h
  obtain ⟨e, h⟩ := h
  subst e
  cases r
  exact assignInOrder_nil ⟨σ, H, I, h⟩
theorem pgs_cons {e : Expr} {es : List Expr} {t : TG} {u : TGs} (h1 : PG X e t) (h2 : PGs X es u)
    (hs : (assignEach (e :: es) X.env).map (·.2) = assign e X.env :: (assignEach es X.env).map (·.2) := by rfl) : PGs X (e :: es) (gCons t u) := by
  intro pins s σ H vs us Q I r h
  obtain ⟨v, vr, e1, h⟩ := h
  subst e1
  cases r with
  | cons r rr =>
    rw [hs]
    refine assignInOrder_cons (thn (h1 pins s σ H _ _ _ I r h) fun _ s1 ⟨σ1, H1, I1, q1⟩ => ?_)
    exact h2 pins s1 σ1 H1 _ _ Q I1 rr q1
def gTup (K : PySem.W.Frag) (n : Nat) (t : TGs) : TG := fun v σ H Q => ∃ a xs, v = .ref a ∧ SqT K H a xs ∧ xs.length = n ∧ t xs σ H Q
theorem pg_tup {es : List Expr} {k : Nat} {t : TGs} {n : Nat} (hc : X.calm = true) (h : PGs X es t)
    (hn : (assignEach es X.env).length = n := by rfl) (hst : (assignEach es X.env).findIdx? (·.1) = none := by rfl) : PG X (.Tuple es k pos) (gTup X.K n t) := by
  intro pins s σ H v u Q I r hw
  obtain ⟨a, xs, e1, hq, hl, hw⟩ := hw
  subst e1
  cases r
  obtain ⟨its, rv, ht, hz⟩ := I.tuple hq
  refine assign_Tuple_tuple (I.ok.hd hc) ht (by simp [hn, ← hl, rv.length]) hst fun h' hx => ?_
  have I1 : Inv X pins σ H { s with heap := h' } := I.kept (t' := s.toks) fun b o e => hx b o (Nat.ne_of_lt (Heap.lt_size e)) e
  exact h pins _ σ H xs _ Q I1 (by simpa using rv) hw
def tAsg (te : TE) (g : TG) : TS := fun D σ H => te σ H fun x H1 => g x σ H1 D.nx
theorem ps_set {i : Nat} {x : Str} {e : Expr} {te : TE} {pos' : Pos} (hN : X.N.Nodup) (hi : X.N[i]? = some x) (hx : Loc X.env.scope x) (he : PE X e te) (hs : swapsWith e (some (.Name x pos')) pos.line X.env = pure false := by rfl) (hf : X.fn x = true ∨ X.env.scope.names.lookup x = some .local := by first | exact .inl rfl | exact .inr rfl | assumption) :
    PS X (.Assign [.Name x pos'] e pos) (tAsg te (gName i)) := by
  intro pins s σ H D I h
  refine wpAny_Assign_Name (thn (he pins s σ H _ I h) fun v s1 ⟨y, H1, I1, r1, q1⟩ => ?_) hs
  exact store_ok I1 hN hi hx r1 (fun s2 I2 => ⟨_, H1, I2, q1⟩) hf
def tAug (i : Nat) (te : TE) (ti : TIp) : TS := fun D σ H => ∃ x, σ[i]? = some (some x) ∧ te σ H fun y H1 => ti x y H1 fun z H2 => D.nx (σ.set i (some z)) H2
theorem ps_aug {i : Nat} {x : Str} {e : Expr} {te : TE} {op : Operator} {ti : TIp} {pos' : Pos} (hN : X.N.Nodup) (hi : X.N[i]? = some x) (hx : Loc X.env.scope x) (he : PE X e te) (ho : PIp X op ti) (hf : X.fn x = true ∨ X.env.scope.names.lookup x = some .local := by first | exact .inl rfl | exact .inr rfl | assumption) :
    PS X (.AugAssign (.Name x pos') op e pos) (tAug i te ti) := by
  intro pins s σ H D I h
  obtain ⟨v, e1, h⟩ := h
  obtain ⟨m, hn, hl⟩ := I.loc
  have vis : Vis X.env.scope x := by rcases hx with k | k; exact .inl k; exact .inr (.inl k)
  obtain ⟨u, r, l⟩ := hl i x v hi e1 vis
  refine wpAny_AugAssign_Name ?_
  have go : wpAny (model X.prog X.w) X.A (eval e X.env) (fun w s₂ => wpAny (model X.prog X.w) X.A (inplaceOp op u w) (fun r s₃ => wpAny (model X.prog X.w) X.A (storeName X.env x r) (fun _ => SP X pins D .next) X.xe s₃) X.xe s₂) X.xe s := by
    refine thn (he pins s σ H _ I h) fun w s1 ⟨y, H1, I1, r1, q1⟩ => ?_
    refine thn (ho pins s1 σ H1 v y u w _ I1 r r1 q1) fun z s2 ⟨zv, H2, I2, r2, q2⟩ => ?_
    exact store_ok I2 hN hi hx r2 (fun s3 I3 => ⟨_, H2, I3, q2⟩) hf
  rcases l with ⟨hk, hm⟩ | ⟨hk, c, hc, hcell⟩
  · exact wpAny_loadName_local I.ok.kind hk hn hm go
  · rcases hk with hk | hk
    · exact wpAny_loadName_cell I.ok.kind hk hc hcell go
    · rcases hx with k | k
      · have : X.env.scope.names.lookup x = some .free := hk
        rw [k] at this; cases this
      · have : X.env.scope.names.lookup x = some .free := hk
        rw [k] at this; cases this
def ipI (f : Int → Int → Int) : TIp := fun x y H Q => ∃ i j, x = .int i ∧ y = .int j ∧ Q (.int (f i j)) H
theorem ip_add : PIp X .Add (ipI fun i j => i + j) := by
  intro pins s σ H x y v u Q I r1 r2 h
  obtain ⟨i, j, e1, e2, q⟩ := h
  subst e1; subst e2
  obtain ⟨t, rfl⟩ := r1
  obtain ⟨t', rfl⟩ := r2
  exact iadd_int ⟨.int _, H, I.tok _, ⟨_, rfl⟩, q⟩
end
section
variable {X : Cx} {pos : Pos}
def tWhile (c : TT) (tb : TS) : TS := fun D σ H => ∃ W : Nat → St → Hp → Prop, (∃ m, W m σ H) ∧ ∀ m σ H, W m σ H →
  c σ H fun b H1 => if b = true then ∃ N : St → Hp → Prop, (∀ σ' H', N σ' H' → ∃ m', m' < m ∧ W m' σ' H') ∧ tb { D with nx := N, ct := N, bk := D.nx } σ H1 else D.nx σ H1
theorem ps_while {c : Expr} {body : List Stmt} {tc : TT} {tb : TS} (hp : PassesOwn (model X.prog X.w) X.A X.env X.xe) (hc : PT X c tc) (hb : PSs X body tb) : PS X (.While c body [] pos) (tWhile tc tb) := by
  intro pins s σ H D I h
  obtain ⟨W, ⟨m0, w0⟩, turn⟩ := h
  refine wpAny_While (codeAny_whileLoop (fun n s' => ∃ σ' H', Inv X pins σ' H' s' ∧ W n σ' H') ?_ m0 ⟨σ, H, I, w0⟩)
  rintro n s1 ⟨σ1, H1, I1, w1⟩
  refine wpAny_passesOwn hp (thn (hc pins s1 σ1 H1 _ I1 (turn n σ1 H1 w1)) fun b s2 ⟨H2, I2, q2⟩ => ?_)
  cases b with
  | true =>
    obtain ⟨N, hN, q2⟩ := q2
    rw [if_pos rfl]
    refine wpAny_passesOwn hp (thn (hb pins s2 σ1 H2 _ I2 q2) fun f s3 q3 => ?_)
    cases f with
    | next =>
      obtain ⟨σ3, H3, I3, n3⟩ := q3
      obtain ⟨m', hm, w3⟩ := hN σ3 H3 n3
      exact ⟨m', hm, σ3, H3, I3, w3⟩
    | cont =>
      obtain ⟨σ3, H3, I3, n3⟩ := q3
      obtain ⟨m', hm, w3⟩ := hN σ3 H3 n3
      exact ⟨m', hm, σ3, H3, I3, w3⟩
    | brk => exact q3
    | ret v => exact q3
  | false =>
    rw [if_neg Bool.false_ne_true]
    exact wpAny_execs_nil ⟨σ1, H2, I2, q2⟩
end
structure It where
  go : Nat → Hp → Prop
  yld : Nat → Hp → V → Hp → Prop
  stop : Nat → Hp → Prop
def FpOk (X : Cx) (pins : List (Addr × Obj)) (H : Hp) (b : Addr) : Prop :=
  H b = none ∧ b ≠ X.env.locals ∧ b ∉ X.fs ∧ (b ∈ X.ex ∨ X.s_0.heap.objs.size ≤ b) ∧ (∀ x c, X.env.cells.lookup x = some c → c ≠ b) ∧ ∀ p ∈ X.pn ++ pins, p.1 ≠ b
theorem Inv.fpOk {X : Cx} {pins : List (Addr × Obj)} {σ : St} {H H' : Hp} {s : Shared} {b : Addr} (I : Inv X pins σ H s) (hb : s.heap.objs.size ≤ b) (hn : H' b = none) : FpOk X pins H' b := by
  refine ⟨hn, Nat.ne_of_gt (Nat.lt_of_lt_of_le I.lt hb), I.nofs hb, .inr (Nat.le_trans I.sz hb), fun x c e z => ?_, fun p hp z => ?_⟩
  · obtain ⟨v, q⟩ := I.cell x c e
    exact absurd (Nat.lt_of_lt_of_le q.lt (by rw [z]; exact hb)) (Nat.lt_irrefl _)
  · exact absurd (Nat.lt_of_lt_of_le (Heap.lt_size (I.pin p hp).1) (by rw [z]; exact hb)) (Nat.lt_irrefl _)
structure Turn (P : Program) (w : World) (K : PySem.W.Frag) (tg : Expr) (J : It) (fp : List Addr) (it : Addr) (tn : Nat → Heap → Prop) : Prop where
  mem : it ∈ fp
  obj : ∀ i h, tn i h → ∀ b ∈ fp, ∃ o, h.get? b = some o ∧ ∀ v, o.data ≠ .cell v
  keep : ∀ i h h', tn i h → (∀ b ∈ fp, ∀ o, h.get? b = some o → h'.get? b = some o) → tn i h'
  item : ∀ (X : Cx), X.prog = P → X.w = w → X.K = K → X.calm = true → ∀ (i : Nat) (pins : List (Addr × Obj)) (s : Shared) (σ : St) (H : Hp) (E : Value → Shared → Prop), Inv X pins σ H s → (∀ b ∈ fp, FpOk X pins H b) → tn i s.heap → J.go i H →
    wpAny (model P w) X.A (pyNext (.ref it)) (fun r s1 => ∃ u, r = some u ∧
      wpAny (model P w) X.A (letOwnedTupleGo tg (.ref it) u) (fun _ s2 => ∃ x H', Inv X pins σ H' s2 ∧ RelV x u ∧ J.yld i H x H' ∧ tn (i + 1) s2.heap ∧ ∀ b ∈ fp, H' b = none) E s1) E s
  done : ∀ (X : Cx), X.prog = P → X.w = w → X.K = K → X.calm = true → ∀ (i : Nat) (pins : List (Addr × Obj)) (s : Shared) (σ : St) (H : Hp) (E : Value → Shared → Prop), Inv X pins σ H s → (∀ b ∈ fp, FpOk X pins H b) → tn i s.heap → J.stop i H →
    wpAny (model P w) X.A (pyNext (.ref it)) (fun r s1 => r = none ∧ Inv X pins σ H s1) E s
  self : ∀ (A : Around) (i : Nat) (s : Shared) (Q : Value → Shared → Prop) (E : Value → Shared → Prop), tn i s.heap → Q (.ref it) s → wpAny (model P w) A (pyIter (.ref it)) Q E s
abbrev TI := St → Hp → (It → Hp → Prop) → Prop
def PIE (X : Cx) (pins : List (Addr × Obj)) (σ : St) (tg : Expr) (R : It → Hp → Prop) (itv : Value) (s2 : Shared) : Prop :=
  ∃ (it : Addr) (fp : List Addr) (tn : Nat → Heap → Prop) (J : It) (H' : Hp), itv = .ref it ∧ Inv X pins σ H' s2 ∧ Turn X.prog X.w X.K tg J fp it tn ∧ tn 0 s2.heap ∧ (∀ b ∈ fp, FpOk X pins H' b) ∧ R J H'
def PI (X : Cx) (tg iter : Expr) (wi : TI) : Prop :=
  ∀ (pins : List (Addr × Obj)) (s : Shared) (σ : St) (H : Hp) (R : It → Hp → Prop), Inv X pins σ H s → wi σ H R →
    wpAny (model X.prog X.w) X.A (eval iter X.env) (fun v s1 => wpAny (model X.prog X.w) X.A (pyIter v) (PIE X pins σ tg R) X.xe s1) X.xe s
theorem go_of {M : Model} {A : Around} {E : Value → Shared → Prop} {s : Shared} {tg : Expr} {it : Addr} {u : Value} {o : Obj} {n : String} {vs : Array Value} {Q : Unit → Shared → Prop} (ho : s.heap.get? it = some o) (hc : o.cls = .type n) (hd : o.data = .fields vs)
    (hn : ["enumerate", "zip", "dict_itemiterator", "dict_reverseitemiterator", "odict_iterator", "itertools.zip_longest", "itertools.pairwise"].contains n = false) (hQ : Q () s) : wpAny M A (letOwnedTupleGo tg (.ref it) u) Q E s := by
  unfold letOwnedTupleGo
  cases tg <;> first
    | exact wpAny_pure hQ
    | (cases u <;> first
        | exact wpAny_pure hQ
        | (refine wpAny_bind (wpAny_load ho ?_)
           rw [hc, hd]
           show wpAny M A (if (["enumerate", "zip", "dict_itemiterator", "dict_reverseitemiterator", "odict_iterator", "itertools.zip_longest", "itertools.pairwise"].contains n && vs[0]? == some (rawInt _)) = true then _ else _) Q E s
           rw [if_neg (by intro h; rw [hn, Bool.false_and] at h; cases h)]
           exact wpAny_pure hQ))
def Itl (K : PySem.W.Frag) (a : Addr) : It :=
  ⟨fun i H => ∃ xs x, SqL K H a xs ∧ xs[i]? = some x, fun i H x H' => H' = H ∧ ∀ xs, SqL K H a xs → xs[i]? = some x, fun i H => ∃ xs, SqL K H a xs ∧ xs.length ≤ i⟩
def Itr (lo : Int) (n : Nat) : It := ⟨fun i _ => i < n, fun i H x H' => H' = H ∧ x = .int (lo + i), fun i _ => n ≤ i⟩
theorem turn_list {P : Program} {w : World} {K : PySem.W.Frag} {tg : Expr} (a it : Addr) : Turn P w K tg (Itl K a) [it] it (fun i h => h.IsListIter it a i) where
  mem := by simp
  obj := fun i h st b hb => by
    have e : b = it := by simpa using hb
    subst e
    obtain ⟨o, e, c, d⟩ := st
    exact ⟨o, e, fun v z => by rw [d] at z; cases z⟩
  keep := fun i h h' st k => st.at fun o e => k it (by simp) o e
  item := by
    intro X hP hw hK hc i pins s σ H E I hf st hg
    subst hP hw hK
    obtain ⟨xs, x, hq, hx⟩ := hg
    obtain ⟨its, rv, p, hz⟩ := I.list hq
    obtain ⟨u, hu, ru⟩ := rv.get hx
    obtain ⟨f0, f1, f2, f3, f4, f5⟩ := hf it (by simp)
    refine wpAny_pyNext_list_item st p.isList (x := u) (by simpa using hu) fun h' st' sb => ?_
    have I1 : Inv X pins σ H { s with heap := h' } := I.turned (t' := s.toks) (fun b o hb e => (sb.2 b hb).trans e) f0 f1 f3 f4 f5
    obtain ⟨o, e, c, d⟩ := id st'
    exact ⟨u, rfl, go_of (s := { s with heap := h' }) e c d (by decide) ⟨x, H, I1, ru, ⟨rfl, fun ys hy => by rw [I.list_inj hy hq]; exact hx⟩, st', fun b hb => (hf b hb).1⟩⟩
  done := by
    intro X hP hw hK hc i pins s σ H E I hf st hg
    subst hP hw hK
    obtain ⟨xs, hq, hx⟩ := hg
    obtain ⟨its, rv, p, hz⟩ := I.list hq
    obtain ⟨f0, f1, f2, f3, f4, f5⟩ := hf it (by simp)
    have hl := rv.length
    exact wpAny_pyNext_list_end (I.ok.hd hc) st p.isList (by simp; omega) fun h' eb => ⟨rfl, I.turned (t' := s.toks) (fun b o hb e => eb b o hb e) f0 f1 f3 f4 f5⟩
  self := fun _ _ _ _ _ st h => wpAny_pyIter_listiter st h
theorem turn_range {P : Program} {w : World} {K : PySem.W.Frag} {tg : Expr} (it : Addr) (lo : Int) (n : Nat) : Turn P w K tg (Itr lo n) [it] it (fun i h => IsRangeIter h it (lo + (i : Nat) * 1) ((n : Int) - (i : Nat)) 1) where
  mem := by simp
  obj := fun i h st b hb => by
    have e : b = it := by simpa using hb
    subst e
    exact ⟨_, st, fun v z => by
      have z' : Data.fields _ = Data.cell v := z
      cases z'⟩
  keep := fun i h h' st k => k it (by simp) _ st
  item := by
    intro X hP hw hK hc i pins s σ H E I hf st hg
    subst hP hw hK
    obtain ⟨f0, f1, f2, f3, f4, f5⟩ := hf it (by simp)
    have W := Walks.range (prog := X.prog) (w := X.w) (I.ok.hd hc) it lo 1 n
    refine W.item i s _ _ hg st fun v h' tk hv st' kk => ?_
    obtain ⟨t, rfl⟩ := hv
    have I1 : Inv X pins σ H { s with heap := h', toks := tk } := I.turned (fun b o hb e => kk b o (by simpa using hb) e) f0 f1 f3 f4 f5
    refine ⟨_, rfl, go_of (s := { s with heap := h', toks := tk }) (n := "range_iterator") st' rfl rfl (by decide) ⟨.int (lo + i), H, I1, ⟨t, ?_⟩, ⟨rfl, rfl⟩, st', fun b hb => (hf b hb).1⟩⟩
    rw [Int.mul_one]
  done := by
    intro X hP hw hK hc i pins s σ H E I hf st hg
    subst hP hw hK
    obtain ⟨f0, f1, f2, f3, f4, f5⟩ := hf it (by simp)
    exact wpAny_pyNext_range_end (I.ok.hd hc) st (by have : n ≤ i := hg; omega) fun h' eb => ⟨rfl, I.turned (t' := s.toks) (fun b o hb e => eb b o hb e) f0 f1 f3 f4 f5⟩
  self := fun _ _ _ _ _ st h => wpAny_pyIter_rangeiter st h
end L2
namespace L2
open PySem PySem.Spec PyProof.Rows
section
variable {X : Cx} {tg : Expr}
def iList (K : PySem.W.Frag) (tl : TE) : TI := fun σ H R => tl σ H fun x H1 => ∃ a, x = .ref a ∧ (∃ xs, SqL K H1 a xs) ∧ R (Itl K a) H1
theorem pi_list {l : Expr} {tl : TE} (hl : PE X l tl) : PI X tg l (iList X.K tl) := by
  intro pins s σ H R I h
  refine thn (hl pins s σ H _ I h) fun v s1 ⟨x, H1, I1, r1, q1⟩ => ?_
  obtain ⟨a, e, ⟨xs, hq⟩, q⟩ := q1
  subst e
  cases r1
  obtain ⟨its, rv, p, hz⟩ := I1.list hq
  refine wpAny_pyIter_list p.isList ?_
  refine ⟨s1.heap.objs.size, [s1.heap.objs.size], _, _, H1, rfl, I1.kept (t' := s1.toks) fun b o e => Heap.get?_push_of_some _ e, turn_list a _, ⟨_, Heap.get?_push_size _ rfl, rfl, rfl⟩, fun b hb => ?_, q⟩
  have e : b = s1.heap.objs.size := by simpa using hb
  subst e
  exact I1.fpOk (Nat.le_refl _) (I1.hok.fresh (Nat.le_refl _))
theorem range_it {pins : List (Addr × Obj)} {σ : St} {H : Hp} {s : Shared} {R : It → Hp → Prop} {E : Value → Shared → Prop} {lo hi : Int} {t u v : Tok} {tk : Nat} (I : Inv X pins σ H s) (h1 : -(2 ^ 62) ≤ lo) (h2 : lo < 2 ^ 62) (h3 : -(2 ^ 62) ≤ hi) (h4 : hi < 2 ^ 62)
    (q : R (Itr lo (hi - lo).toNat) H) : wpAny (model X.prog X.w) X.A (pyIter (.ref s.heap.objs.size)) (PIE X pins σ tg R) E { s with heap := s.heap.push { cls := .type "range", data := .fields #[.int lo t, .int hi u, .int 1 v] }, toks := tk } := by
  refine wpAny_pyIter_range (IsRange.new ..) (small_one h1 h2 h3 h4) ?_
  have I1 : Inv X pins σ H { s with heap := s.heap.push { cls := .type "range", data := .fields #[.int lo t, .int hi u, .int 1 v] }, toks := tk } := I.kept fun b o e => Heap.get?_push_of_some _ e
  refine ⟨(s.heap.push { cls := .type "range", data := .fields #[.int lo t, .int hi u, .int 1 v] }).objs.size, [(s.heap.push { cls := .type "range", data := .fields #[.int lo t, .int hi u, .int 1 v] }).objs.size], _, _, H, rfl,
    I1.kept (t' := tk) fun b o e => Heap.get?_push_of_some _ e, turn_range _ lo (hi - lo).toNat, ?_, fun b hb => ?_, q⟩
  · have e1 : lo + ((0 : Nat) : Int) * 1 = lo := by simp
    have e2 : (((hi - lo).toNat : Nat) : Int) - ((0 : Nat) : Int) = Builtin.Range.rangeSize lo hi 1 := by rw [rangeSize_one]; split <;> omega
    show IsRangeIter _ _ (lo + ((0 : Nat) : Int) * 1) ((((hi - lo).toNat : Nat) : Int) - ((0 : Nat) : Int)) 1
    rw [e1, e2]
    exact Heap.get?_push_size _ rfl
  · have e : b = (s.heap.push { cls := .type "range", data := .fields #[.int lo t, .int hi u, .int 1 v] }).objs.size := by simpa using hb
    subst e
    exact I1.fpOk (Nat.le_refl _) (I1.hok.fresh (Nat.le_refl _))
def iRng1 (ta : TA) : TI := fun σ H R => ta σ H fun vs H1 => ∃ j : Int, vs = [.int j] ∧ -(2 ^ 62) ≤ j ∧ j < 2 ^ 62 ∧ R (Itr 0 j.toNat) H1
theorem pi_range1 {a : Expr} {ta : TA} {p pos : Pos} (hg : Gl X "range") (hm : X.mg "range" = none) (ha : PA X [a] ta) (hs : starEach [a] X.env = [(false, eval a X.env)] := by rfl) : PI X tg (.Call (.Name "range" p) [a] [] pos) (iRng1 ta) := by
  intro pins s σ H R I h
  refine Call_ (ld_blt I hg hm boot_range (PyProof.Rows.callWith_type1 (thn (ha pos pins s σ H _ I h) fun us s1 ⟨vs, H1, I1, r1, q1⟩ => ?_) hs rfl))
  obtain ⟨j, e, q1, q2, q⟩ := q1
  subst e
  cases r1 with
  | cons r rr =>
    cases rr
    obtain ⟨t, rfl⟩ := r
    exact call_range_1 (range_it I1 (by omega) (by omega) q1 q2 (by simpa using q))
def tFor (wi : TI) (g : TG) (tb : TS) : TS := fun D σ H => wi σ H fun J H1 => ∃ W : Nat → Nat → St → Hp → Prop, (∃ m, W 0 m σ H1) ∧ ∀ i m σ H, W i m σ H →
  (J.stop i H ∧ D.nx σ H) ∨ (J.go i H ∧ ∃ N : St → Hp → Prop, (∀ σ' H', N σ' H' → ∃ m', m' < m ∧ W (i + 1) m' σ' H') ∧ ∀ x H', J.yld i H x H' → g x σ H' fun σ2 H2 => tb { D with nx := N, ct := N, bk := D.nx } σ2 H2)
def pinsAt (fp : List Addr) (h : Heap) : List (Addr × Obj) := fp.filterMap fun b => (h.get? b).map fun o => (b, o)
theorem mem_pinsAt {fp : List Addr} {h : Heap} {b : Addr} {o : Obj} (hb : b ∈ fp) (e : h.get? b = some o) : (b, o) ∈ pinsAt fp h := List.mem_filterMap.mpr ⟨b, hb, by rw [e]; rfl⟩
theorem of_pinsAt {fp : List Addr} {h : Heap} {p : Addr × Obj} (hp : p ∈ pinsAt fp h) : p.1 ∈ fp ∧ h.get? p.1 = some p.2 := by
  obtain ⟨b, hb, e⟩ := List.mem_filterMap.mp hp
  cases q : h.get? b with
  | none => rw [q] at e; cases e
  | some o =>
    rw [q] at e
    have e' : (b, o) = p := Option.some.inj e
    subst e'
    exact ⟨hb, q⟩
theorem Inv.pinned {pins : List (Addr × Obj)} {σ : St} {H : Hp} {s : Shared} {fp : List Addr} (I : Inv X pins σ H s) (hf : ∀ b ∈ fp, FpOk X pins H b) (ho : ∀ b ∈ fp, ∃ o, s.heap.get? b = some o ∧ ∀ v, o.data ≠ .cell v) : Inv X (pins ++ pinsAt fp s.heap) σ H s :=
  I.pins_of fun p hp => (List.mem_append.mp hp).elim (fun z => I.pin p (List.mem_append_right _ z)) fun z => by
    obtain ⟨hb, e⟩ := of_pinsAt z
    obtain ⟨f0, f1, f2, _⟩ := hf p.1 hb
    obtain ⟨o, e', d⟩ := ho p.1 hb
    rw [e] at e'; cases e'
    exact ⟨e, f0, f1, f2, d⟩
theorem Inv.unpinned {pins pl : List (Addr × Obj)} {σ : St} {H : Hp} {s : Shared} (I : Inv X (pins ++ pl) σ H s) : Inv X pins σ H s := I.pins_of fun p hp => I.pin p (List.mem_append_right _ (List.mem_append_left _ hp))
theorem ps_for {iter : Expr} {body : List Stmt} {wi : TI} {g : TG} {tb : TS} {pos : Pos} (hp : PassesOwn (model X.prog X.w) X.A X.env X.xe) (hc : X.calm = true) (hi : PI X tg iter wi) (hg : PG X tg g) (hb : PSs X body tb)
    (hs : ∀ x, foldedSetIterable iter X.env x = pure x := by intro _; rfl) : PS X (.For tg iter body [] pos) (tFor wi g tb) := by
  intro pins s σ H D I h
  refine wpAny_For (thn (hi pins s σ H _ I h) fun v s1 h1 => thn h1 fun itv s2 h2 => ?_) hs
  obtain ⟨it, fp, tn, J, H2, e, I2, T, st2, f2, W, ⟨m0, w0⟩, turn⟩ := h2
  subst e
  -- what stays true of the iterator's objects through the loop
  have stat : ∀ {H' : Hp}, (∀ b ∈ fp, H' b = none) → ∀ b ∈ fp, FpOk X pins H' b := fun hn b hb => ⟨hn b hb, (f2 b hb).2⟩
  refine codeAny_forLoop_any (fun n s' => ∃ i σ' H', Inv X pins σ' H' s' ∧ tn i s'.heap ∧ (∀ b ∈ fp, H' b = none) ∧ W i n σ' H') ?_ m0 ⟨0, σ, H2, I2, st2, fun b hb => (f2 b hb).1, w0⟩
  rintro n s3 ⟨i, σ3, H3, I3, st3, fr3, w3⟩
  rcases turn i n σ3 H3 w3 with ⟨stop, qn⟩ | ⟨go, N, hN, step⟩
  · refine wpAny_passesOwn hp (thn (T.done X rfl rfl rfl hc i pins s3 σ3 H3 X.xe I3 (stat fr3) st3 stop) fun r s4 ⟨hr, I4⟩ => ?_)
    subst hr
    exact wpAny_execs_nil ⟨σ3, H3, I4, qn⟩
  · refine wpAny_passesOwn hp (thn (T.item X rfl rfl rfl hc i pins s3 σ3 H3 X.xe I3 (stat fr3) st3 go) fun r s4 ⟨u, hr, h4⟩ => ?_)
    subst hr
    refine wpAny_passesOwn hp (thn h4 fun _ s5 ⟨x, H5, I5, r5, y5, st5, fr5⟩ => ?_)
    have I5' := I5.pinned (stat fr5) (T.obj _ _ st5)
    refine wpAny_passesOwn hp (thn (hg _ s5 σ3 H5 x u _ I5' r5 (step x H5 y5)) fun _ s6 ⟨σ6, H6, I6, q6⟩ => ?_)
    refine wpAny_passesOwn hp (thn (hb _ s6 σ6 H6 _ I6 q6) fun f s7 q7 => ?_)
    have again : ∀ {σ7 : St} {H7 : Hp}, Inv X (pins ++ pinsAt fp s5.heap) σ7 H7 s7 → N σ7 H7 → ∃ m, m < n ∧ ∃ i σ' H', Inv X pins σ' H' s7 ∧ tn i s7.heap ∧ (∀ b ∈ fp, H' b = none) ∧ W i m σ' H' := fun {σ7 H7} I7 n7 => by
      obtain ⟨m', hm, w7⟩ := hN σ7 H7 n7
      refine ⟨m', hm, i + 1, σ7, H7, I7.unpinned, T.keep _ _ _ st5 fun b hb o e => (I7.pin (b, o) (List.mem_append_right _ (List.mem_append_right _ (mem_pinsAt hb e)))).1, fun b hb => ?_, w7⟩
      obtain ⟨o, e, d⟩ := T.obj _ _ st5 b hb
      exact (I7.pin (b, o) (List.mem_append_right _ (List.mem_append_right _ (mem_pinsAt hb e)))).2.1
    cases f with
    | next => obtain ⟨σ7, H7, I7, n7⟩ := q7; exact again I7 n7
    | cont => obtain ⟨σ7, H7, I7, n7⟩ := q7; exact again I7 n7
    | brk => obtain ⟨σ7, H7, I7, q7⟩ := q7; exact ⟨σ7, H7, I7.unpinned, q7⟩
    | ret v => obtain ⟨x7, σ7, H7, I7, r7, q7⟩ := q7; exact ⟨x7, σ7, H7, I7.unpinned, r7, q7⟩
end
theorem for_list {K : PySem.W.Frag} {a : Addr} {xs : List V} {g : TG} {tb : TS} {D : Ends} {σ : St} {H : Hp} (Pv : Nat → St → Hp → Prop) (h0 : Pv 0 σ H) (hl : ∀ i σ H, i ≤ xs.length → Pv i σ H → SqL K H a xs)
    (hs : ∀ i x σ H, xs[i]? = some x → Pv i σ H → g x σ H fun σ2 H2 => tb { D with nx := Pv (i + 1), ct := Pv (i + 1), bk := D.nx } σ2 H2) (hd : ∀ σ H, Pv xs.length σ H → D.nx σ H) :
    ∃ W : Nat → Nat → St → Hp → Prop, (∃ m, W 0 m σ H) ∧ ∀ i m σ H, W i m σ H →
      ((Itl K a).stop i H ∧ D.nx σ H) ∨ ((Itl K a).go i H ∧ ∃ N : St → Hp → Prop, (∀ σ' H', N σ' H' → ∃ m', m' < m ∧ W (i + 1) m' σ' H') ∧ ∀ x H', (Itl K a).yld i H x H' → g x σ H' fun σ2 H2 => tb { D with nx := N, ct := N, bk := D.nx } σ2 H2) := by
  refine ⟨fun i m σ H => m = xs.length - i ∧ i ≤ xs.length ∧ Pv i σ H, ⟨xs.length, by simp, Nat.zero_le _, h0⟩, ?_⟩
  rintro i m σ H ⟨rfl, hi, p⟩
  have q := hl i σ H hi p
  by_cases hlt : i < xs.length
  · refine .inr ⟨⟨xs, xs[i], q, by simp [hlt]⟩, Pv (i + 1), fun σ' H' p' => ⟨xs.length - (i + 1), by omega, rfl, hlt, p'⟩, fun x H' y => ?_⟩
    obtain ⟨e, y⟩ := y
    subst e
    exact hs i x σ _ (y xs q) p
  · have e : i = xs.length := by omega
    subst e
    exact .inl ⟨⟨xs, q, Nat.le_refl _⟩, hd σ H p⟩
theorem while_by {c : TT} {tb : TS} {D : Ends} {σ : St} {H : Hp} (Pv : St → Hp → Prop) (μ : St → Hp → Nat) (h0 : Pv σ H)
    (hs : ∀ σ H, Pv σ H → c σ H fun b H1 => if b = true then tb { D with nx := fun σ' H' => Pv σ' H' ∧ μ σ' H' < μ σ H, ct := fun σ' H' => Pv σ' H' ∧ μ σ' H' < μ σ H, bk := D.nx } σ H1 else D.nx σ H1)
    (mono : ∀ σ H Q Q', (∀ b H1, Q b H1 → Q' b H1) → c σ H Q → c σ H Q') : tWhile c tb D σ H := by
  refine ⟨fun m σ H => m = μ σ H ∧ Pv σ H, ⟨_, rfl, h0⟩, ?_⟩
  rintro m σ H ⟨rfl, p⟩
  refine mono σ H _ _ (fun b H1 q => ?_) (hs σ H p)
  cases b with
  | true => exact ⟨_, fun σ' H' ⟨p', l⟩ => ⟨_, l, rfl, p'⟩, q⟩
  | false => exact q
end L2
namespace L2
open PySem PySem.Spec PyProof.Rows
abbrev R2 := V → V → Hp → VK → Prop
def OpR (X : Cx) (f : Value → Value → Sem Value) (r : R2) : Prop :=
  ∀ (pins : List (Addr × Obj)) (s : Shared) (σ : St) (H : Hp) (x y : V) (v u : Value) (Q : VK), Inv X pins σ H s → RelV x v → RelV y u → r x y H Q →
    wpAny (model X.prog X.w) X.A (f v u) (EP X pins σ Q) X.xe s
def UnR (X : Cx) (f : Value → Sem Value) (r : V → Hp → VK → Prop) : Prop :=
  ∀ (pins : List (Addr × Obj)) (s : Shared) (σ : St) (H : Hp) (x : V) (v : Value) (Q : VK), Inv X pins σ H s → RelV x v → r x H Q →
    wpAny (model X.prog X.w) X.A (f v) (EP X pins σ Q) X.xe s
def CallR (X : Cx) (f : Value) (r : List V → Hp → VK → Prop) : Prop :=
  ∀ (pins : List (Addr × Obj)) (s : Shared) (σ : St) (H : Hp) (xs : List V) (us : List Value) (Q : VK), Inv X pins σ H s → Vals xs us → r xs H Q →
    wpAny (model X.prog X.w) X.A (call f us) (EP X pins σ Q) X.xe s
def tOp (r : R2) (ta tb : TE) : TE := fun σ H Q => ta σ H fun x H1 => tb σ H1 fun y H2 => r x y H2 Q
def tUn (r : V → Hp → VK → Prop) (ta : TE) : TE := fun σ H Q => ta σ H fun x H1 => r x H1 Q
def rI (C : Int → Int → Prop) (g : Int → Int → V) : R2 := fun x y H Q => ∃ i j, x = .int i ∧ y = .int j ∧ C i j ∧ Q (g i j) H
def rI0 (g : Int → Int → V) : R2 := fun x y H Q => ∃ i j, x = .int i ∧ y = .int j ∧ Q (g i j) H
def rU (g : Int → V) : V → Hp → VK → Prop := fun x H Q => ∃ i, x = .int i ∧ Q (g i) H
section
variable {X : Cx} {a b c : Expr} {ta tb tc : TE} {pos : Pos}
theorem binT (ha : PE X a ta) (hb : PE X b tb) {pins : List (Addr × Obj)} {s : Shared} {σ : St} {H : Hp} {R : V → V → Hp → Prop} (I : Inv X pins σ H s)
    (h : ta σ H fun x H1 => tb σ H1 fun y H2 => R x y H2) {Q : Value → Shared → Prop} {f : Value → Value → Sem Value}
    (hf : ∀ v u s2 x y H2, Inv X pins σ H2 s2 → RelV x v → RelV y u → R x y H2 → wpAny (model X.prog X.w) X.A (f v u) Q X.xe s2) :
    wpAny (model X.prog X.w) X.A (eval a X.env) (fun v s₁ => wpAny (model X.prog X.w) X.A (eval b X.env) (fun u s₂ => wpAny (model X.prog X.w) X.A (f v u) Q X.xe s₂) X.xe s₁) X.xe s := by
  refine thn (ha pins s σ H _ I h) fun v s1 ⟨x, H1, I1, r1, q1⟩ => ?_
  refine thn (hb pins s1 σ H1 _ I1 q1) fun u s2 ⟨y, H2, I2, r2, q2⟩ => ?_
  exact hf v u s2 x y H2 I2 r1 r2 q2
theorem pe_op {op : Operator} {r : R2} (ho : OpR X (binaryOp op) r) (ha : PE X a ta) (hb : PE X b tb) : PE X (.BinOp a op b pos) (tOp r ta tb) := by
  intro pins s σ H Q I h
  exact wpAny_BinOp (binT ha hb I h fun v u s2 x y H2 I2 rx ry q => ho pins s2 σ H2 x y v u Q I2 rx ry q)
theorem pe_un {op : UnaryOp} {r : V → Hp → VK → Prop} (ho : UnR X (unaryOp op) r) (ha : PE X a ta) : PE X (.UnaryOp op a pos) (tUn r ta) := by
  intro pins s σ H Q I h
  exact UnaryOp_ (thn (ha pins s σ H _ I h) fun v s1 ⟨x, H1, I1, r1, q1⟩ => ho pins s1 σ H1 x v Q I1 r1 q1)
theorem opI {f : Value → Value → Sem Value} {C : Int → Int → Prop} {g : Int → Int → Int}
    (rule : ∀ (i j : Int) (t u : Tok) (s : Shared) (Q : Value → Shared → Prop) (E : Value → Shared → Prop), C i j → Q (.int (g i j) s.toks) { s with toks := s.toks + 1 } → wpAny (model X.prog X.w) X.A (f (.int i t) (.int j u)) Q E s) :
    OpR X f (rI C fun i j => .int (g i j)) := by
  intro pins s σ H x y v u Q I rx ry h
  obtain ⟨i, j, rfl, rfl, hc, q⟩ := h
  obtain ⟨t, rfl⟩ := rx
  obtain ⟨t', rfl⟩ := ry
  exact rule i j t t' s _ _ hc ⟨.int (g i j), H, I.tok _, ⟨_, rfl⟩, q⟩
theorem opI0 {f : Value → Value → Sem Value} {g : Int → Int → Int}
    (rule : ∀ (i j : Int) (t u : Tok) (s : Shared) (Q : Value → Shared → Prop) (E : Value → Shared → Prop), Q (.int (g i j) s.toks) { s with toks := s.toks + 1 } → wpAny (model X.prog X.w) X.A (f (.int i t) (.int j u)) Q E s) :
    OpR X f (rI0 fun i j => .int (g i j)) := by
  intro pins s σ H x y v u Q I rx ry h
  obtain ⟨i, j, rfl, rfl, q⟩ := h
  obtain ⟨t, rfl⟩ := rx
  obtain ⟨t', rfl⟩ := ry
  exact rule i j t t' s _ _ ⟨.int (g i j), H, I.tok _, ⟨_, rfl⟩, q⟩
theorem opB0 {f : Value → Value → Sem Value} {g : Int → Int → Bool}
    (rule : ∀ (i j : Int) (t u : Tok) (s : Shared) (Q : Value → Shared → Prop) (E : Value → Shared → Prop), Q (.bool (g i j)) s → wpAny (model X.prog X.w) X.A (f (.int i t) (.int j u)) Q E s) :
    OpR X f (rI0 fun i j => .bl (g i j)) := by
  intro pins s σ H x y v u Q I rx ry h
  obtain ⟨i, j, rfl, rfl, q⟩ := h
  obtain ⟨t, rfl⟩ := rx
  obtain ⟨t', rfl⟩ := ry
  exact rule i j t t' s _ _ ⟨.bl (g i j), H, I, rfl, q⟩
def CMul (i j : Int) : Prop := (-(2 ^ 64) < i ∧ i < 2 ^ 64) ∨ (-(2 ^ 64) < j ∧ j < 2 ^ 64)
theorem CMul.ok {i j : Int} (h : CMul i j) : IntMulOk i j := by
  rcases h with ⟨h1, h2⟩ | ⟨h1, h2⟩
  · exact .of_left (intBits_le_64 h1 h2)
  · exact .of_right (intBits_le_64 h1 h2)
theorem op_add : OpR X (binaryOp .Add) (rI0 fun i j => .int (i + j)) := opI0 fun _ _ _ _ _ _ _ q => add_int q
theorem op_sub : OpR X (binaryOp .Sub) (rI0 fun i j => .int (i - j)) := opI0 fun _ _ _ _ _ _ _ q => sub_int q
theorem op_mul : OpR X (binaryOp .Mult) (rI CMul fun i j => .int (i * j)) := opI fun _ _ _ _ _ _ _ hc q => mul_int q hc.ok
theorem unI {f : Value → Sem Value} {g : Int → Int}
    (rule : ∀ (i : Int) (t : Tok) (s : Shared) (Q : Value → Shared → Prop) (E : Value → Shared → Prop), Q (.int (g i) s.toks) { s with toks := s.toks + 1 } → wpAny (model X.prog X.w) X.A (f (.int i t)) Q E s) :
    UnR X f (rU fun i => .int (g i)) := by
  intro pins s σ H x v Q I rx h
  obtain ⟨i, rfl, q⟩ := h
  obtain ⟨t, rfl⟩ := rx
  exact rule i t s _ _ ⟨.int (g i), H, I.tok _, ⟨_, rfl⟩, q⟩
theorem un_neg : UnR X (unaryOp .USub) (rU fun i => .int (-i)) := unI fun _ _ _ _ _ q => neg_int q
end
def scal : V → V → Bool
  | .non, .non => true | .non, .int _ => true | .int _, .non => true | .non, .bl _ => true | .bl _, .non => true | .non, .str _ => true | .str _, .non => true
  | .int _, .int _ => true | .bl _, .bl _ => true | .str _, .str _ => true | .byt _, .byt _ => true
  | .int _, .str _ => true | .str _, .int _ => true | .bl _, .str _ => true | .str _, .bl _ => true
  | _, _ => false
def rEq : R2 := fun x y H Q => scal x y = true ∧ Q (.bl (decide (x = y))) H
def rNe : R2 := fun x y H Q => scal x y = true ∧ Q (.bl (!decide (x = y))) H
theorem dec_int {i j : Int} : decide (V.int i = V.int j) = (i == j) := by
  rw [Bool.eq_iff_iff]
  simp
theorem dec_bl {i j : Bool} : decide (V.bl i = V.bl j) = (i == j) := by
  rw [Bool.eq_iff_iff]
  simp
theorem dec_str {i j : Str} : decide (V.str i = V.str j) = (i == j) := by
  rw [Bool.eq_iff_iff]
  simp
theorem dec_byt {i j : Array UInt8} : decide (V.byt i = V.byt j) = (i.toList == j.toList) := by
  rw [Bool.eq_iff_iff]
  cases i
  cases j
  simp
section
variable {X : Cx} {a b c : Expr} {ta tb tc : TE} {pos : Pos}
theorem fin_bl {pins : List (Addr × Obj)} {σ : St} {H : Hp} {s : Shared} {Q : VK} {k k' : Bool} (I : Inv X pins σ H s) (q : Q (.bl k) H) (e : k = k') : EP X pins σ Q (.bool k') s := by
  subst e
  exact ⟨.bl k, H, I, rfl, q⟩
theorem op_eq : OpR X (compareOp .Eq) rEq := by
  intro pins s σ H x y v u Q I rx ry h
  obtain ⟨hs, q⟩ := h
  cases x with
  | non =>
    cases rx
    cases y with
    | non => cases ry; exact PySem.EqNone.eq_none_none (fin_bl I q (by simp))
    | bl j => cases ry; exact PySem.EqNone.eq_none_bool (fin_bl I q (by simp))
    | int j => obtain ⟨t', rfl⟩ := ry; exact PySem.EqNone.eq_none_int (fin_bl I q (by simp))
    | str j => obtain ⟨t', rfl⟩ := ry; exact PySem.EqNone.eq_none_str (fin_bl I q (by simp))
    | _ => exact absurd (show false = true from hs) Bool.false_ne_true
  | bl i =>
    cases rx
    cases y with
    | non => cases ry; exact PySem.EqNone.eq_bool_none (fin_bl I q (by simp))
    | bl j => cases ry; exact eq_bool (fin_bl I q dec_bl)
    | str j => obtain ⟨t', rfl⟩ := ry; exact PySem.EqMixed.eq_bool_str (fin_bl I q (by simp))
    | _ => exact absurd (show false = true from hs) Bool.false_ne_true
  | int i =>
    obtain ⟨t, rfl⟩ := rx
    cases y with
    | non => cases ry; exact PySem.EqNone.eq_int_none (fin_bl I q (by simp))
    | int j => obtain ⟨t', rfl⟩ := ry; exact eq_int (fin_bl I q dec_int)
    | str j => obtain ⟨t', rfl⟩ := ry; exact PySem.EqMixed.eq_int_str (fin_bl I q (by simp))
    | _ => exact absurd (show false = true from hs) Bool.false_ne_true
  | str i =>
    obtain ⟨t, rfl⟩ := rx
    cases y with
    | non => cases ry; exact PySem.EqNone.eq_str_none (fin_bl I q (by simp))
    | bl j => cases ry; exact PySem.EqMixed.eq_str_bool (fin_bl I q (by simp))
    | int j => obtain ⟨t', rfl⟩ := ry; exact PySem.EqMixed.eq_str_int (fin_bl I q (by simp))
    | str j => obtain ⟨t', rfl⟩ := ry; exact eq_str (fin_bl I q dec_str)
    | _ => exact absurd (show false = true from hs) Bool.false_ne_true
  | byt i =>
    obtain ⟨t, rfl⟩ := rx
    cases y with
    | byt j => obtain ⟨t', rfl⟩ := ry; exact PySem.W.eq_bytes (fin_bl I q dec_byt)
    | _ => exact absurd (show false = true from hs) Bool.false_ne_true
  | _ => cases y <;> exact absurd (show false = true from hs) Bool.false_ne_true
theorem op_ne : OpR X (compareOp .NotEq) rNe := by
  intro pins s σ H x y v u Q I rx ry h
  obtain ⟨hs, q⟩ := h
  cases x with
  | non =>
    cases rx
    cases y with
    | non => cases ry; exact PySem.EqNone.ne_none_none (fin_bl I q (by simp))
    | bl j => cases ry; exact PySem.EqNone.ne_none_bool (fin_bl I q (by simp))
    | int j => obtain ⟨t', rfl⟩ := ry; exact PySem.EqNone.ne_none_int (fin_bl I q (by simp))
    | str j => obtain ⟨t', rfl⟩ := ry; exact PySem.EqNone.ne_none_str (fin_bl I q (by simp))
    | _ => exact absurd (show false = true from hs) Bool.false_ne_true
  | bl i =>
    cases rx
    cases y with
    | non => cases ry; exact PySem.EqNone.ne_bool_none (fin_bl I q (by simp))
    | bl j => cases ry; exact ne_bool (fin_bl I q (congrArg not dec_bl))
    | str j => obtain ⟨t', rfl⟩ := ry; exact PySem.EqMixed.ne_bool_str (fin_bl I q (by simp))
    | _ => exact absurd (show false = true from hs) Bool.false_ne_true
  | int i =>
    obtain ⟨t, rfl⟩ := rx
    cases y with
    | non => cases ry; exact PySem.EqNone.ne_int_none (fin_bl I q (by simp))
    | int j => obtain ⟨t', rfl⟩ := ry; exact ne_int (fin_bl I q (congrArg not dec_int))
    | str j => obtain ⟨t', rfl⟩ := ry; exact PySem.EqMixed.ne_int_str (fin_bl I q (by simp))
    | _ => exact absurd (show false = true from hs) Bool.false_ne_true
  | str i =>
    obtain ⟨t, rfl⟩ := rx
    cases y with
    | non => cases ry; exact PySem.EqNone.ne_str_none (fin_bl I q (by simp))
    | bl j => cases ry; exact PySem.EqMixed.ne_str_bool (fin_bl I q (by simp))
    | int j => obtain ⟨t', rfl⟩ := ry; exact PySem.EqMixed.ne_str_int (fin_bl I q (by simp))
    | str j => obtain ⟨t', rfl⟩ := ry; exact ne_str (fin_bl I q (congrArg not dec_str))
    | _ => exact absurd (show false = true from hs) Bool.false_ne_true
  | byt i =>
    obtain ⟨t, rfl⟩ := rx
    cases y with
    | byt j => obtain ⟨t', rfl⟩ := ry; exact PySem.W.ne_bytes (fin_bl I q (congrArg not dec_byt))
    | _ => exact absurd (show false = true from hs) Bool.false_ne_true
  | _ => cases y <;> exact absurd (show false = true from hs) Bool.false_ne_true
theorem op_lt : OpR X (compareOp .Lt) (rI0 fun i j => .bl (decide (i < j))) := opB0 fun _ _ _ _ _ _ _ q => lt_int q
theorem op_gt : OpR X (compareOp .Gt) (rI0 fun i j => .bl (decide (j < i))) := opB0 fun _ _ _ _ _ _ _ q => gt_int q
theorem op_ge : OpR X (compareOp .GtE) (rI0 fun i j => .bl (decide (j ≤ i))) := opB0 fun _ _ _ _ _ _ _ q => ge_int q
theorem nomark (b : Expr) {op : CmpOp} (h : op ≠ .In := by decide) (h2 : op ≠ .NotIn := by decide) : behindInMarks op b = false := by
  have e1 : (op == CmpOp.In) = false := by cases op <;> first | rfl | exact absurd rfl h
  have e2 : (op == CmpOp.NotIn) = false := by cases op <;> first | rfl | exact absurd rfl h2
  cases b <;> simp [behindInMarks, e1, e2]
theorem pe_cmpR {op : CmpOp} {r : R2} (ho : OpR X (compareOp op) r) (ha : PE X a ta) (hb : PE X b tb) (hm : behindInMarks op b = false) : PE X (.Compare a [op] [b] pos) (tOp r ta tb) := by
  intro pins s σ H Q I h
  exact wpAny_Compare1 (binT ha hb I h fun v u s2 x y H2 I2 rx ry q => ho pins s2 σ H2 x y v u Q I2 rx ry q) hm
def tTest (t : TE) : TT := fun σ H Q => t σ H fun x H' => ∃ k, x = .bl k ∧ Q k H'
theorem pt_cmpR {op : CmpOp} {r : R2} (ho : OpR X (compareOp op) r) (ha : PE X a ta) (hb : PE X b tb) (hm : behindInMarks op b = false) : PT X (.Compare a [op] [b] pos) (tTest (tOp r ta tb)) := by
  intro pins s σ H Q I h
  refine wpAny_isTrue_Compare1 (thn (ha pins s σ H _ I h) fun v s1 ⟨x, H1, I1, r1, q1⟩ => thn (hb pins s1 σ H1 _ I1 q1) fun u s2 ⟨y, H2, I2, r2, q2⟩ =>
    thn (ho pins s2 σ H2 x y v u _ I2 r1 r2 q2) fun c s3 ⟨z, H3, I3, r3, k, e, q3⟩ => ?_) hm
  subst e
  cases r3
  exact wpAny_truthy_bool ⟨H3, I3, q3⟩
theorem line63 : (sizeLine : Nat) < 2 ^ 63 := by rw [sizeLine_eq]; decide
theorem vals1 {x : V} {us : List Value} (r : Vals [x] us) : ∃ u, us = [u] ∧ RelV x u := by
  cases r with
  | cons r1 r2 => cases r2; exact ⟨_, rfl, r1⟩
end
end L2
namespace L2
open PySem PySem.Spec PyProof.Rows
structure ObjM (h : Heap) (x dx C : Addr) (mA : Str → Option Value) : Prop where
  obj : h.get? x = some (PySem.W.instObj C dx)
  ns : h.Ns1 dx mA
  ne : dx ≠ x
theorem lookIn_ns {h : Heap} {dx : Addr} {mA : Str → Option Value} (n : h.Ns1 dx mA) : ∃ od, h.get? dx = some od ∧ ∀ name, PySem.W.lookIn name od = some (mA name) := by
  obtain ⟨o, es, ep, ho, hd, hk, _, hm⟩ := n
  refine ⟨o, ho, fun name => ?_⟩
  have e := hm name
  unfold nsFind findBy at e
  rw [← Array.find?_toList] at e
  unfold PySem.W.lookIn
  rw [hd]
  dsimp only
  split
  · rename_i y q
    rw [q] at e
    exact congrArg some e
  · rename_i q
    rw [q] at e
    have a : es.toList.any (·.refKey) = false := by
      rw [List.any_eq_false]
      intro y hy
      obtain ⟨z, t, hkey⟩ := hk y (Array.mem_toList_iff.mp hy)
      simp [DictEntry.refKey, hkey]
    have a' : ¬ es.toList.any (·.refKey) = true := by rw [a]; exact Bool.false_ne_true
    rw [if_neg a']
    exact congrArg some e
theorem ObjM.look {h : Heap} {x dx C : Addr} {mA : Str → Option Value} (I : ObjM h x dx C mA) : ∃ od, PySem.W.InstAt h x (PySem.W.instObj C dx) C (some od) ∧ ∀ name, PySem.W.lookIn name od = some (mA name) :=
  let ⟨od, ho, hl⟩ := lookIn_ns I.ns
  ⟨od, ⟨I.obj, rfl, rfl, ho⟩, hl⟩
section
variable {prog : Program} {w : World} {A : Around} {E : Value → Shared → Prop} {s : Shared} {K : PySem.W.Frag} {x dx C f : Addr} {mA : Str → Option Value} {name : Str} {v : Value}
theorem get_map {expr : Bool} {Q : Value → Shared → Prop} (X : K.In s.heap) (I : ObjM s.heap x dx C mA) (hg : PySem.W.plainGet K C name = true) (hh : PySem.W.hasDictIn K C = true)
    (ha : PySem.W.findIn K (.ref C) name = some none) (hv : mA name = some v) (hv' : PySem.W.handedIn v = true) (h : Q v { s with toks := s.toks + 1 }) :
    wpAny (model prog w) A (getAttr (.ref x) name expr) Q E s := by
  obtain ⟨od, J, hl⟩ := I.look
  exact PySem.W.get_value X J (PySem.W.plainGet_of hg).1 (PySem.W.findObj_own hh ha rfl (by rw [hl, hv])) hv' h
theorem get_meth {pl : Sem Bool} {Q : Value × List Value → Shared → Prop} (X : K.In s.heap) (I : ObjM s.heap x dx C mA) (hg : PySem.W.plainGet K C name = true)
    (hf : PySem.W.findIn K (.ref C) name = some (some (.ref f))) (ht : PySem.W.isFn K (.ref f) = true) (hv : mA name = none) (h : Q (.ref f, [.ref x]) s) :
    wpAny (model prog w) A (getMethod (.ref x) name pl) Q E s := by
  obtain ⟨od, J, hl⟩ := I.look
  exact PySem.W.method_fn X J (PySem.W.plainGet_of hg).1 (PySem.W.plainGet_of hg).2 hf (beq_iff_eq.mp ht) (by show (PySem.W.lookIn name od).map (·.isSome) = some false; rw [hl, hv]; rfl) h
theorem set_map {ns : List Str} {Q : Unit → Shared → Prop} (X : K.In s.heap) (I : ObjM s.heap x dx C mA)
    (hs : PySem.W.findIn K (.ref C) "__setattr__" = some (some (.builtin "object.__setattr__"))) (hp : PySem.W.plainOver K C = true) (ht : PySem.W.takerIn K C name = some none) (hh : PySem.W.hasDictIn K C = true)
    (hw : PySem.Within mA ns) (hsz : ns.length ≤ sizeLine)
    (h : ∀ h', ObjM h' x dx C (fun y => if y = name then some v else mA y) → Heap.SameBut dx s.heap h' → Q () { s with heap := h', toks := s.toks + 2 }) :
    wpAny (model prog w) A (setAttr (.ref x) name v) Q E s := by
  obtain ⟨od, J, hl⟩ := I.look
  refine PySem.W.set_plain X J hs (PySem.W.osa_open (s := { s with toks := s.toks + 1 }) (r := none) X J hp ht fun b => ?_)
  obtain ⟨cd, hc, hd'⟩ := PySem.W.any_some hh
  have hx : s.heap.get? x = some ⟨.ref C, some dx, .plain, #[]⟩ := I.obj
  refine wpAny_bind (wpAny_pure (wpAny_bind (wpAny_bind (wpAny_loadPart hx (wpAny_bind (PySem.W.Looks.here (s := { s with toks := s.toks + 1 }) (PySem.W.looks_clsIn X hc) ?_))))))
  rw [hd']
  refine wpAny_pure (a := some dx) (wpAny_bind (wpAny_pure (wpAny_bind ?_)))
  refine wpAny_nsSet1 (s := { s with toks := s.toks + 1 }) I.ns fun h' hn2 hs2 => ?_
  obtain ⟨oD, esD, epD, hoD, hdD, hcD⟩ := hn2.count (PySem.Within.cons name v hw)
  refine wpAny_bind (wpAny_lookBehind hoD (by rw [hdD]; exact pastItsLine_dict (Nat.le_trans hcD (by rw [List.length_cons]; omega))) ?_)
  exact wpAny_pure (h _ ⟨(hs2.2 _ (Ne.symm I.ne)).trans I.obj, hn2, I.ne⟩ hs2)
theorem make_map {R : Result → Shared → Prop} {vs : List Value} {kw : List (Str × Value)} (X : K.In s.heap) (hm : PySem.W.makesIn K C = true)
    (hi : PySem.W.findIn K (.ref C) "__init__" = some (some (.ref f))) (hf : PySem.W.typeIn K (.ref f) = some (.type "function"))
    (h : codeAny (model prog w) (A.under (.builtin "type.__call__" ⟨.ref C :: vs, kw⟩)) (.call (.ref f) ⟨.ref (s.heap.objs.size + 1) :: vs, kw⟩) (PySem.W.InitBack (s.heap.objs.size + 1) R)
      { s with heap := (s.heap.push PySem.W.emptyDict).push (PySem.W.instObj C s.heap.objs.size) }) :
    codeAny (model prog w) A (.call (.ref C) ⟨vs, kw⟩) R s := by
  obtain ⟨hh, g, d, t, os⟩ := s
  exact PySem.W.make_core (PySem.W.makes_of X hm) (PySem.W.looks_findIn X hi) (fun self => PySem.W.bind_fn X self hf) (.inl rfl) h
end
def putF (f : Str) (v : V) : List (Str × V) → List (Str × V)
  | [] => [(f, v)]
  | (g, x) :: r => if g = f then (g, v) :: r else (g, x) :: putF f v r
theorem lookup_putF (f g : Str) (v : V) : ∀ fs : List (Str × V), (putF f v fs).lookup g = if g = f then some v else fs.lookup g
  | [] => by
    show List.lookup g [(f, v)] = _
    by_cases h : g = f
    · have hb : (g == f) = true := beq_iff_eq.mpr h
      simp only [List.lookup, hb, if_pos h]
    · have hb : (g == f) = false := beq_eq_false_iff_ne.mpr h
      simp only [List.lookup, hb, if_neg h]
  | (k, x) :: r => by
    have ih := lookup_putF f g v r
    rw [show putF f v ((k, x) :: r) = (if k = f then (k, v) :: r else (k, x) :: putF f v r) from rfl]
    by_cases hk : k = f
    · rw [if_pos hk]
      by_cases h : g = k
      · have hb : (g == k) = true := beq_iff_eq.mpr h
        simp only [List.lookup, hb, if_pos (h.trans hk)]
      · have hb : (g == k) = false := beq_eq_false_iff_ne.mpr h
        simp only [List.lookup, hb, if_neg (fun e : g = f => h (e.trans hk.symm))]
    · rw [if_neg hk]
      by_cases h : g = k
      · have hb : (g == k) = true := beq_iff_eq.mpr h
        simp only [List.lookup, hb, if_neg (fun e : g = f => hk (h.symm.trans e))]
      · have hb : (g == k) = false := beq_eq_false_iff_ne.mpr h
        simp only [List.lookup, hb]
        exact ih
theorem keys_putF (f : Str) (v : V) : ∀ fs : List (Str × V), f ∈ (putF f v fs).map (·.1) ∧ ∀ g, g ∈ fs.map (·.1) → g ∈ (putF f v fs).map (·.1)
  | [] => ⟨by simp [putF], fun g h => by simp at h⟩
  | (k, x) :: r => by
    obtain ⟨i1, i2⟩ := keys_putF f v r
    rw [show putF f v ((k, x) :: r) = (if k = f then (k, v) :: r else (k, x) :: putF f v r) from rfl]
    by_cases hk : k = f
    · rw [if_pos hk]
      subst hk
      exact ⟨by simp, fun g h => by simpa using h⟩
    · rw [if_neg hk]
      refine ⟨?_, fun g h => ?_⟩
      · rw [List.map_cons]
        exact List.mem_cons_of_mem _ i1
      · rw [List.map_cons] at h ⊢
        rcases List.mem_cons.mp h with e | e
        · exact List.mem_cons.mpr (.inl e)
        · exact List.mem_cons_of_mem _ (i2 g e)
theorem length_putF (f : Str) (v : V) : ∀ fs : List (Str × V), (putF f v fs).length ≤ fs.length + 1
  | [] => by simp [putF]
  | (k, x) :: r => by
    have ih := length_putF f v r
    rw [show putF f v ((k, x) :: r) = (if k = f then (k, v) :: r else (k, x) :: putF f v r) from rfl]
    by_cases hk : k = f
    · rw [if_pos hk, List.length_cons, List.length_cons]; omega
    · rw [if_neg hk, List.length_cons, List.length_cons]; omega
theorem RelO.some_of {v : V} {o : Option Value} (r : RelO (some v) o) : ∃ u, o = some u ∧ RelV v u := by
  cases o with
  | none => exact (show False from r).elim
  | some u => exact ⟨u, rfl, r⟩
theorem RelO.none_of {o : Option Value} (r : RelO none o) : o = none := by
  cases o with
  | none => rfl
  | some u => exact (show False from r).elim
theorem handed_of {v : V} {u : Value} (r : RelV v u) : PySem.W.handedIn u = true := by
  cases v with
  | non => cases (show u = Value.none from r); rfl
  | bl b => cases (show u = Value.bool b from r); rfl
  | int i => obtain ⟨t, e⟩ := (show ∃ t, u = Value.int i t from r); cases e; rfl
  | str x => obtain ⟨t, e⟩ := (show ∃ t, u = Value.str x t from r); cases e; rfl
  | byt b => obtain ⟨t, e⟩ := (show ∃ t, u = Value.bytes b t from r); cases e; rfl
  | flt b => obtain ⟨t, e⟩ := (show ∃ t, u = Value.float b t from r); cases e; rfl
  | ref a => cases (show u = Value.ref a from r); rfl
  | ty n => cases (show u = Value.type n from r); rfl
section
variable {P : Program} {w : World} {H H' : Hp} {h h' : Heap} {a C dx : Addr} {fs fs' : List (Str × V)}
theorem ins_get (hok : HOk P w H h) (e : H a = some (.ins C dx fs)) : ∃ mA, ObjM h a dx C mA ∧ (∀ f, RelO (fs.lookup f) (mA f)) ∧ PySem.Within mA (fs.map (·.1)) ∧ fs.length ≤ 1000 ∧ H dx = some (.own a) := by
  obtain ⟨d, z, ne, ob, mA, n, r, q⟩ := (show ObjOk P w H h a (.ins C dx fs) from hok a _ e)
  exact ⟨mA, ⟨ob, n, ne⟩, r, q, z, d⟩
end
structure Cls (K : PySem.W.Frag) (C : Addr) : Prop where
  pg : PySem.W.plainGet K C Str.empty = true
  hd : PySem.W.hasDictIn K C = true
  po : PySem.W.plainOver K C = true
  sa : PySem.W.findIn K (.ref C) "__setattr__" = some (some (.builtin "object.__setattr__"))
theorem Cls.get {K : PySem.W.Frag} {C : Addr} (c : Cls K C) (f : Str) : PySem.W.plainGet K C f = true := c.pg
def NoAttr (K : PySem.W.Frag) (C : Addr) (f : Str) : Prop := PySem.W.findIn K (.ref C) f = some none
theorem NoAttr.taker {K : PySem.W.Frag} {C : Addr} {f : Str} (n : NoAttr K C f) : PySem.W.takerIn K C f = some none := by
  unfold PySem.W.takerIn
  rw [show PySem.W.findIn K (.ref C) f = some none from n]
  rfl
structure Meth (K : PySem.W.Frag) (C : Addr) (m : Str) (f : Addr) : Prop where
  at_ : PySem.W.findIn K (.ref C) m = some (some (.ref f))
  fn : PySem.W.isFn K (.ref f) = true
  kp : PySem.W.keepIn K (.ref f) = true
section
variable {X : Cx} {pins : List (Addr × Obj)} {σ : St} {H : Hp} {s : Shared} {a C dx : Addr} {fs : List (Str × V)} {f : Str} {v : V} {A : Around} {E : Value → Shared → Prop}
theorem getattr_ok {b : Bool} {Q : Value → Shared → Prop} (I : Inv X pins σ H s) (e : H a = some (.ins C dx fs)) (c : Cls X.K C) (n : NoAttr X.K C f) (l : fs.lookup f = some v)
    (h : ∀ u s', Inv X pins σ H s' → RelV v u → Q u s') : wpAny (model X.prog X.w) A (getAttr (.ref a) f b) Q E s := by
  obtain ⟨mA, O, r, _, _, _⟩ := ins_get I.hok e
  obtain ⟨u, hu, ru⟩ := RelO.some_of (v := v) (o := mA f) (by rw [← l]; exact r f)
  exact get_map I.kIn O (c.get f) c.hd n hu (handed_of ru) (h u _ (I.tok _) ru)
theorem getmeth_ok {m : Str} {g : Addr} {pl : Sem Bool} {Q : Value × List Value → Shared → Prop} (I : Inv X pins σ H s) (e : H a = some (.ins C dx fs)) (c : Cls X.K C) (k : Meth X.K C m g) (l : fs.lookup m = none)
    (h : Q (.ref g, [.ref a]) s) : wpAny (model X.prog X.w) A (getMethod (.ref a) m pl) Q E s := by
  obtain ⟨mA, O, r, _, _, _⟩ := ins_get I.hok e
  have hn : mA m = none := RelO.none_of (by rw [← l]; exact r m)
  exact get_meth I.kIn O (c.get m) k.at_ k.fn hn h
theorem setattr_ok {y : V} {u : Value} {Q : Unit → Shared → Prop} (I : Inv X pins σ H s) (e : H a = some (.ins C dx fs)) (c : Cls X.K C) (n : NoAttr X.K C f) (hl : fs.length < 1000) (ry : RelV y u)
    (h : ∀ s', Inv X pins σ (upd H a (.ins C dx (putF f y fs))) s' → Q () s') : wpAny (model X.prog X.w) A (setAttr (.ref a) f u) Q E s := by
  obtain ⟨mA, O, r, wi, _, ho⟩ := ins_get I.hok e
  have hz : (fs.map (·.1)).length ≤ sizeLine := by rw [List.length_map, sizeLine_eq]; omega
  refine set_map I.kIn O c.sa c.po n.taker c.hd wi hz fun h' O' sb => h _ ?_
  have hd : ∃ o, h'.get? dx = some o := let ⟨o, _, _, e', _⟩ := O'.ns; ⟨o, e'⟩
  refine I.write (x := a) (e := dx) (by rw [e]; exact True.intro) (.inr ho) (fun b q hb z => (sb.2 b hb).trans z) hd ?_
  refine ⟨by rw [upd_ne O.ne]; exact ho, ?_, O.ne, O'.obj, _, O'.ns, fun g => ?_, fun g hg => ?_⟩
  · have := length_putF f y fs; omega
  · show RelO ((putF f y fs).lookup g) (if g = f then some u else mA g)
    rw [lookup_putF]
    by_cases q : g = f
    · rw [if_pos q, if_pos q]; exact ry
    · rw [if_neg q, if_neg q]; exact r g
  · by_cases q : g = f
    · rw [q]; exact (keys_putF f y fs).1
    · refine (keys_putF f y fs).2 g (wi g fun z => hg ?_)
      show (if g = f then some u else mA g) = none
      rw [if_neg q]; exact z
theorem Inv.made (I : Inv X pins σ H s) : Inv X pins σ (upd (upd H s.heap.objs.size (.own (s.heap.objs.size + 1))) (s.heap.objs.size + 1) (.ins C s.heap.objs.size []))
    { s with heap := (s.heap.push PySem.W.emptyDict).push (PySem.W.instObj C s.heap.objs.size) } := by
  have e1 : (s.heap.push PySem.W.emptyDict).get? s.heap.objs.size = some PySem.W.emptyDict := Heap.get?_push_size s.heap rfl
  have e2 : ((s.heap.push PySem.W.emptyDict).push (PySem.W.instObj C s.heap.objs.size)).get? (s.heap.objs.size + 1) = some (PySem.W.instObj C s.heap.objs.size) := by
    have := Heap.get?_push_size (s.heap.push PySem.W.emptyDict) (o := PySem.W.instObj C s.heap.objs.size) rfl
    rwa [Heap.size_push] at this
  have e3 : (s.heap.push PySem.W.emptyDict).Ns s.heap.objs.size (fun _ => none) := ⟨PySem.W.emptyDict, #[], _, e1, rfl, (fun e he => absurd he (by simp)), fun _ => rfl⟩
  have I1 := I.laid (a := s.heap.objs.size) (o := .own (s.heap.objs.size + 1)) (h' := s.heap.push PySem.W.emptyDict) (t' := s.toks) (fun b u q => Heap.get?_push_of_some _ q) (Nat.le_refl _) ⟨_, e1⟩
  refine I1.laid (a := s.heap.objs.size + 1) (o := .ins C s.heap.objs.size []) (t' := s.toks) (fun b u q => Heap.get?_push_of_some _ q) (Nat.le_of_eq (Heap.size_push _ _)) ?_
  have ne : s.heap.objs.size ≠ s.heap.objs.size + 1 := Nat.ne_of_lt (Nat.lt_succ_self _)
  refine ⟨by rw [upd_ne ne, upd_same], Nat.zero_le _, ne, e2, fun _ => none, (Heap.Ns1.of_empty e3).at fun o q => Heap.get?_push_of_some _ q, fun _ => True.intro, fun y hy => absurd rfl hy⟩
theorem attr_of {prog : Program} {w : World} {env : Env} {e : Expr} {f : Str} {pos : Pos} {s : Shared} {Q : Value → Shared → Prop} (hb : attributeBase e f env (eval e env) = eval e env)
    (h : wpAny (model prog w) A (eval e env) (fun o s₁ => wpAny (model prog w) A (getAttr o f true) Q E s₁) E s) : wpAny (model prog w) A (eval (.Attribute e f pos) env) Q E s :=
  Attribute_any_ h (by rw [arm_eval_Attribute, hb])
end
def InOp (X : Cx) (op : Operator) (rd : V → V → Hp → VK → Prop) : Prop :=
  ∀ (pins : List (Addr × Obj)) (s : Shared) (σ : St) (H : Hp) (x y : V) (u v : Value) (Q : VK), Inv X pins σ H s → RelV x u → RelV y v → rd x y H Q → wpAny (model X.prog X.w) X.A (inplaceOp op u v) (EP X pins σ Q) X.xe s
section
variable {X : Cx} {o e value : Expr} {f : Str} {pos pos' tpos : Pos} {ta tv : TE}
def rAdd : V → V → Hp → VK → Prop := fun x y H Q => ∃ i j, x = .int i ∧ y = .int j ∧ Q (.int (i + j)) H
def rSub : V → V → Hp → VK → Prop := fun x y H Q => ∃ i j, x = .int i ∧ y = .int j ∧ Q (.int (i - j)) H
theorem in_add : InOp X .Add rAdd := by
  rintro pins s σ H x y u v Q I rx ry ⟨i, j, rfl, rfl, q⟩
  obtain ⟨t, rfl⟩ := (show ∃ t, u = Value.int i t from rx)
  obtain ⟨t', rfl⟩ := (show ∃ t', v = Value.int j t' from ry)
  exact PyProof.Rows.iadd_int ⟨.int (i + j), H, I.tok _, ⟨_, rfl⟩, q⟩
theorem in_sub : InOp X .Sub rSub := by
  rintro pins s σ H x y u v Q I rx ry ⟨i, j, rfl, rfl, q⟩
  obtain ⟨t, rfl⟩ := (show ∃ t, u = Value.int i t from rx)
  obtain ⟨t', rfl⟩ := (show ∃ t', v = Value.int j t' from ry)
  exact PyProof.Rows.isub_int ⟨.int (i - j), H, I.tok _, ⟨_, rfl⟩, q⟩
end
section
variable {X : Cx} {pins : List (Addr × Obj)} {σ : St} {H : Hp} {s : Shared} {A : Around} {E : Value → Shared → Prop} {Q : Value → Shared → Prop} {c : Value} {b : Bool}
end
end L2
namespace L2
open PySem PySem.Spec PyProof.Rows
structure Room (k : Nat) (A : Around) : Prop where
  hd : A.handled = none
  dp : A.depth + 3 * k + 5 < recursionLimit
  un : A.units + 16 * k + 200 < cLine
theorem Room.mono {j k : Nat} {A : Around} (r : Room k A) (h : j ≤ k) : Room j A := ⟨r.hd, by have := r.dp; omega, by have := r.un; omega⟩
theorem Room.deeper {k : Nat} {A : Around} (r : Room (k + 1) A) (env : Env) : Room k (A.deeper env) :=
  ⟨r.hd, by have := r.dp; show A.depth + 1 + 3 * k + 5 < _; omega, by have := r.un; show A.units + 3 + 16 * k + 200 < _; omega⟩
theorem make_depth {A : Around} {C : Addr} {us : List Value} {kw : List (Str × Value)} : (A.under (.builtin "type.__call__" ⟨.ref C :: us, kw⟩)).depth = A.depth + 1 := by
  first | rfl | simp [Around.under, Code.weight, Code.isCreation, Code.isGuard, Code.isCaller, Code.frames, Code.isFrame, guardIds]
theorem make_units {A : Around} {C : Addr} {us : List Value} {kw : List (Str × Value)} : (A.under (.builtin "type.__call__" ⟨.ref C :: us, kw⟩)).units = A.units + 1 := by
  first | rfl | simp [Around.under, Code.cUnits, Code.frames, Code.isFrame]
theorem Room.make {k : Nat} {A : Around} (r : Room (k + 1) A) (C : Addr) (us : List Value) (kw : List (Str × Value)) : Room k (A.under (.builtin "type.__call__" ⟨.ref C :: us, kw⟩)) :=
  ⟨r.hd, by have := r.dp; rw [make_depth]; omega, by have := r.un; rw [make_units]; omega⟩
theorem Room.depth {k : Nat} {A : Around} (r : Room k A) : A.depth < recursionLimit := by have := r.dp; omega
theorem Room.units {k : Nat} {A : Around} (r : Room k A) : A.units + 64 < cLine := by have := r.un; omega
def tNil : TA := fun _ H Q => Q [] H
def tCons (ta : TE) (tr : TA) : TA := fun σ H Q => ta σ H fun x H1 => tr σ H1 fun xs H2 => Q (x :: xs) H2
section
variable {X : Cx} {e : Expr} {es : List Expr} {te : TE} {t : TA} {pos : Pos}
theorem pa_nil : PA X [] tNil := fun _ _ _ _ H Q I h => Calls.spliced_nil ⟨[], H, I, .nil, h⟩
theorem pa_cons (ha : PE X e te) (hr : PA X es t) (hs : starEach (e :: es) X.env = (false, eval e X.env) :: starEach es X.env := by rfl) : PA X (e :: es) (tCons te t) := by
  intro pos pins s σ H Q I h
  rw [hs]
  show wpAny _ _ (spliced ((false, eval e X.env) :: backTo pos (starEach es X.env))) _ _ s
  refine Calls.spliced_cons (thn (ha pins s σ H _ I h) fun u s1 ⟨x, H1, I1, r1, q1⟩ => ?_)
  exact thn (hr pos pins s1 σ H1 _ I1 q1) fun us s2 ⟨xs, H2, I2, r2, q2⟩ => ⟨x :: xs, H2, I2, .cons r1 r2, q2⟩
def tTup (t : TA) : TE := fun σ H Q => t σ H fun xs H1 => xs.length ≤ sizeLine ∧ ∀ p, H1 p = none → Q (.ref p) (upd H1 p (.tup xs))
def tLst (t : TA) : TE := fun σ H Q => t σ H fun xs H1 => xs.length ≤ sizeLine ∧ ∀ p, H1 p = none → Q (.ref p) (upd H1 p (.lst xs))
theorem pe_tup {x1} (h : PA X es t) : PE X (.Tuple es x1 pos) (tTup t) := by
  intro pins s σ H Q I hq
  refine wpAny_Tuple_spliced (thn (h pos pins s σ H _ I hq) fun us s1 ⟨xs, H1, I1, r, z, q⟩ => ⟨by rw [← r.length]; exact z, ?_⟩)
  have hf : H1 s1.heap.objs.size = none := I1.hok.fresh (Nat.le_refl _)
  refine ⟨.ref s1.heap.objs.size, upd H1 s1.heap.objs.size (.tup xs), I1.laid (t' := s1.toks) (fun b u e => Heap.get?_push_of_some _ e) (Nat.le_refl _) ?_, rfl, q _ hf⟩
  exact ⟨z, us, r, ⟨_, Heap.get?_push_size _ rfl, rfl, _, rfl⟩⟩
theorem pe_lst (h : PA X es t) : PE X (.List es pos) (tLst t) := by
  intro pins s σ H Q I hq
  refine wpAny_List_spliced (thn (h pos pins s σ H _ I hq) fun us s1 ⟨xs, H1, I1, r, z, q⟩ => ⟨by rw [← r.length]; exact z, ?_⟩)
  have hf : H1 s1.heap.objs.size = none := I1.hok.fresh (Nat.le_refl _)
  refine ⟨.ref s1.heap.objs.size, upd H1 s1.heap.objs.size (.lst xs), I1.laid (t' := s1.toks) (fun b u e => Heap.get?_push_of_some _ e) (Nat.le_refl _) ?_, rfl, q _ hf⟩
  exact ⟨z, us, 0, r, Heap.get?_push_size _ rfl⟩
end
abbrev Sp := List V → Hp → VK → XK → Prop
abbrev CXT := List Env → Hp → Shared → XK → Value → Shared → Prop
structure Env0 (P : Program) (w : World) (K : PySem.W.Frag) (mg : Str → Option Value) (base : Heap) (A : Around) (outer : List Env) (s : Shared) (H : Hp) : Prop where
  frames : A.frames = some outer
  mod : Mod K mg base
  bs : ∀ b o, base.get? b = some o → s.heap.get? b = some o ∧ H b = none
  bsz : base.objs.size ≤ s.heap.objs.size
  funs : s.heap.FunFrames base outer
  frf : ∀ b ∈ frs outer, H b = none
  hok : HOk P w H s.heap
  bare : AllBare s.gens
def CE (outer : List Env) (P : Program) (w : World) (H : Hp) (s : Shared) (Q : VK) (u : Value) (s' : Shared) : Prop :=
  ∃ v H', s'.os = s.os ∧ AllBare s'.gens ∧ Un (frs outer) [] H H' s.heap s'.heap ∧ HOk P w H' s'.heap ∧ RelV v u ∧ Q v H'
def CR (CX : CXT) (outer : List Env) (P : Program) (w : World) (H : Hp) (s : Shared) (Q : VK) (E : XK) (r : Result) (s' : Shared) : Prop :=
  match r with
  | .ok (.ret u) => CE outer P w H s Q u s'
  | .ok _ => False
  | .error e => CX outer H s E e s'
structure FnOk (P : Program) (w : World) (K : PySem.W.Frag) (mg : Str → Option Value) (base : Heap) (CX : CXT) (k : Nat) (f : Addr) (fd : FuncData) (ps : List Str) (sp : Sp) : Prop where
  len : ∀ vs H Q E, sp vs H Q E → vs.length = ps.length
  run : ∀ (A : Around) (outer : List Env) (s : Shared) (H : Hp) (args : Args) (us : List Value) (vs : List V) (Q : VK) (E : XK), Room k A → Env0 P w K mg base A outer s H → BindsTo s fd args (ps.zip us) → Vals vs us → sp vs H Q E →
    codeAny (model P w) A (.call (.ref f) args) (CR CX outer P w H s Q E) s
theorem Env0.make {P : Program} {w : World} {K : PySem.W.Frag} {mg : Str → Option Value} {base : Heap} {A : Around} {outer : List Env} {s : Shared} {H : Hp} (e : Env0 P w K mg base A outer s H) (C : Addr) (us : List Value) (kw : List (Str × Value)) :
    Env0 P w K mg base (A.under (.builtin "type.__call__" ⟨.ref C :: us, kw⟩)) outer s H := ⟨by first | exact e.frames | (simpa [Around.under, Code.envs, Code.isFrame, pushEnvs] using e.frames), e.mod, e.bs, e.bsz, e.funs, e.frf, e.hok, e.bare⟩
section
variable {X : Cx} {pins : List (Addr × Obj)} {σ : St} {H : Hp} {s s' : Shared}
theorem Inv.env0 (I : Inv X pins σ H s) : Env0 X.prog X.w X.K X.mg X.base X.A X.stack s H :=
  ⟨I.ok.frames, I.ok.mod, I.bs, Nat.le_trans I.ok.bsz I.sz, I.stack, I.stkFree, I.hok, I.bare⟩
theorem Inv.after {Q : VK} {u : Value} (I : Inv X pins σ H s) (h : CE X.stack X.prog X.w H s Q u s') : EP X pins σ Q u s' := by
  obtain ⟨v, H', os, bare, un, hok, r, q⟩ := h
  obtain ⟨hh, g, d, t, os'⟩ := s'
  obtain rfl : os' = s.os := os
  exact ⟨v, H', I.call (h' := hh) (g' := g) (d' := d) (t' := t) (ch := []) un hok bare (fun b z => absurd z (by simp)), r, q⟩
end
def tCall (sp : Sp) (dvs : List V) (E : XK) (t : TA) : TE := fun σ H Q => t σ H fun vs H1 => sp (vs ++ dvs) H1 Q E
def tMeth (C : Addr) (m : Str) (sp : Sp) (dvs : List V) (E : XK) (ta : TE) (t : TA) : TE := fun σ H Q => ta σ H fun x H1 => ∃ a dx fs, x = .ref a ∧ H1 a = some (.ins C dx fs) ∧ fs.lookup m = none ∧
  t σ H1 fun vs H2 => sp (x :: (vs ++ dvs)) H2 Q E
def tMake (C : Addr) (sp : Sp) (dvs : List V) (E : XK) (t : TA) : TE := fun σ H Q => t σ H fun vs H1 => ∀ x dx, H1 x = none → H1 dx = none → dx ≠ x →
  sp (.ref x :: (vs ++ dvs)) (upd (upd H1 dx (.own x)) x (.ins C dx [])) (fun v H2 => v = .non ∧ Q (.ref x) H2) E
def Binds (K : PySem.W.Frag) (fd : FuncData) (ps : List Str) (ds : List Value) : Prop :=
  ∀ (s : Shared) (us : List Value), K.In s.heap → (us ++ ds).length = ps.length → BindsTo s fd ⟨us, []⟩ (ps.zip (us ++ ds))
theorem Binds.all {K : PySem.W.Frag} {fd : FuncData} {ps : List Str} (h : ∀ us : List Value, us.length = ps.length → bindArgs fd ⟨us, []⟩ = pure (ps.zip us)) : Binds K fd ps [] := fun s us _ hl => by
  rw [List.append_nil] at hl ⊢
  exact .of_eq (h us hl)
def Passes (CX : CXT) (X : Cx) (E : XK) : Prop := ∀ (pins : List (Addr × Obj)) (σ : St) (H : Hp) (s : Shared) (e : Value) (s' : Shared), Inv X pins σ H s → CX X.stack H s E e s' → X.xe e s'
section
variable {X : Cx} {CX : CXT} {k : Nat} {f C : Addr} {fd : FuncData} {ps : List Str} {sp : Sp} {dvs : List V} {ds : List Value} {E : XK} {x m : Str} {p pos apos : Pos} {e o : Expr} {es : List Expr} {ta : TE} {t : TA}
theorem run_fn {pins : List (Addr × Obj)} {σ : St} {H : Hp} {s : Shared} {Q : VK} {us : List Value} {vs : List V} (F : FnOk X.prog X.w X.K X.mg X.base CX k f fd ps sp) (hr : Room k X.A) (hb : Binds X.K fd ps ds) (hd : Vals dvs ds) (hx : Passes CX X E)
    (I : Inv X pins σ H s) (r : Vals vs us) (h : sp (vs ++ dvs) H Q E) : wpAny (model X.prog X.w) X.A (call (.ref f) us) (EP X pins σ Q) X.xe s := by
  have r2 : Vals (vs ++ dvs) (us ++ ds) := r.append hd
  have hl : (us ++ ds).length = ps.length := by rw [← r2.length]; exact F.len _ _ _ _ h
  refine wpAny_call (codeAny_mono (F.run X.A X.stack s H ⟨us, []⟩ (us ++ ds) (vs ++ dvs) Q E hr I.env0 (hb s us I.kIn hl) r2 h) fun r s' hq => ?_)
  cases r with
  | error e => exact hx pins σ H s e s' I hq
  | ok fl =>
    cases fl with
    | ret u => exact I.after hq
    | next => exact False.elim hq
    | brk => exact False.elim hq
    | cont => exact False.elim hq
theorem pe_call (F : FnOk X.prog X.w X.K X.mg X.base CX k f fd ps sp) (hr : Room k X.A) (hg : Gl X x) (hm : X.mg x = some (.ref f)) (hk : PySem.W.keepIn X.K (.ref f) = true) (hb : Binds X.K fd ps ds) (hd : Vals dvs ds) (hx : Passes CX X E)
    (ha : PA X (e :: es) t) (hdb : (x == ("__debug__" : Str)) = false := by decide) (he : starEach (e :: es) X.env = (false, eval e X.env) :: starEach es X.env := by rfl) (hpl : (backTo pos (starEach es X.env)).any (·.1) = false := by rfl) :
    PE X (.Call (.Name x p) (e :: es) [] pos) (tCall sp dvs E t) := by
  intro pins s σ H Q I h
  refine wpAny_Call_Name_kw (ld_glob I hg hm ?_ hdb)
  refine PySem.W.callWith_K (h₀ := X.base) I.ok.mod.kin hk (thn (ha pos pins s σ H _ I h) fun us s1 ⟨vs, H1, I1, r, q⟩ => ⟨I1.kIn, ?_⟩) he hpl
  exact run_fn F hr hb hd hx I1 r q
theorem pe_call0 (F : FnOk X.prog X.w X.K X.mg X.base CX k f fd ps sp) (hr : Room k X.A) (hg : Gl X x) (hm : X.mg x = some (.ref f)) (hk : PySem.W.keepIn X.K (.ref f) = true) (hb : Binds X.K fd ps ds) (hd : Vals dvs ds) (hx : Passes CX X E)
    (hdb : (x == ("__debug__" : Str)) = false := by decide) : PE X (.Call (.Name x p) [] [] pos) (tCall sp dvs E tNil) := by
  intro pins s σ H Q I h
  refine wpAny_Call_Name_kw (ld_glob I hg hm ?_ hdb)
  exact PySem.W.callWith_K0 I.kIn hk (run_fn (us := []) F hr hb hd hx I .nil h)
theorem pe_meth {pl : Sem Bool} (he : PE X o ta) (c : Cls X.K C) (hm : Meth X.K C m f) (F : FnOk X.prog X.w X.K X.mg X.base CX k f fd ps sp) (hr : Room k X.A) (hb : Binds X.K fd ps ds) (hd : Vals dvs ds) (hx : Passes CX X E) (ha : PA X (e :: es) t)
    (hst : starEach (e :: es) X.env = (false, eval e X.env) :: starEach es X.env := by rfl) (hpl : (backTo pos (starEach es X.env)).any (·.1) = false := by rfl)
    (ht : eval (.Call (.Attribute o m apos) (e :: es) [] pos) X.env = (do
      let ov ← eval o X.env
      standAt apos.atName
      let (f, first) ← holding [ov] (getMethod ov m pl)
      callWith pos f first (backTo pos (starEach (e :: es) X.env)) (backToKw pos (keywordEach [] X.env))) := by rfl) :
    PE X (.Call (.Attribute o m apos) (e :: es) [] pos) (tMeth C m sp dvs E ta t) := by
  intro pins s σ H Q I h
  refine PySem.W.methodCall_KW (pl := pl) (thn (he pins s σ H _ I h) fun u s1 ⟨x, H1, I1, rx, a, dx, fs, ex, ea, l, q⟩ => ?_) ht
  subst ex
  obtain rfl : u = Value.ref a := rx
  refine getmeth_ok I1 ea c hm l ?_
  refine PySem.W.callWith_K (first := [.ref a]) (h₀ := X.base) I.ok.mod.kin hm.kp (thn (ha pos pins s1 σ H1 _ I1 q) fun us s2 ⟨vs, H2, I2, r, q2⟩ => ⟨I2.kIn, ?_⟩) hst hpl
  exact run_fn (us := .ref a :: us) (vs := .ref a :: vs) F hr hb hd hx I2 (.cons rfl r) q2
theorem pe_meth0 {pl : Sem Bool} (he : PE X o ta) (c : Cls X.K C) (hm : Meth X.K C m f) (F : FnOk X.prog X.w X.K X.mg X.base CX k f fd ps sp) (hr : Room k X.A) (hb : Binds X.K fd ps ds) (hd : Vals dvs ds) (hx : Passes CX X E)
    (ht : eval (.Call (.Attribute o m apos) [] [] pos) X.env = (do
      let ov ← eval o X.env
      standAt apos.atName
      let (f, first) ← holding [ov] (getMethod ov m pl)
      callWith pos f first (backTo pos (starEach [] X.env)) (backToKw pos (keywordEach [] X.env))) := by rfl) :
    PE X (.Call (.Attribute o m apos) [] [] pos) (tMeth C m sp dvs E ta tNil) := by
  intro pins s σ H Q I h
  refine PySem.W.methodCall_KW (pl := pl) (thn (he pins s σ H _ I h) fun u s1 ⟨x, H1, I1, rx, a, dx, fs, ex, ea, l, q⟩ => ?_) ht
  subst ex
  obtain rfl : u = Value.ref a := rx
  refine getmeth_ok I1 ea c hm l ?_
  exact PySem.W.callWith_K0 (first := [.ref a]) I1.kIn hm.kp (run_fn (us := [.ref a]) (vs := [.ref a]) F hr hb hd hx I1 (.cons rfl .nil) q)
structure Mk (K : PySem.W.Frag) (C f : Addr) : Prop where
  makes : PySem.W.makesIn K C = true
  init : PySem.W.findIn K (.ref C) "__init__" = some (some (.ref f))
  fn : PySem.W.isFn K (.ref f) = true
  kp : PySem.W.keepIn K (.ref C) = true
theorem run_make {pins : List (Addr × Obj)} {σ : St} {H : Hp} {s : Shared} {Q : VK} {us : List Value} {vs : List V} (M : Mk X.K C f) (F : FnOk X.prog X.w X.K X.mg X.base CX k f fd ps sp) (hr : Room (k + 1) X.A) (hb : Binds X.K fd ps ds) (hd : Vals dvs ds)
    (hx : Passes CX X E) (I : Inv X pins σ H s) (r : Vals vs us)
    (h : ∀ x dx, H x = none → H dx = none → dx ≠ x → sp (.ref x :: (vs ++ dvs)) (upd (upd H dx (.own x)) x (.ins C dx [])) (fun v H2 => v = .non ∧ Q (.ref x) H2) E) :
    wpAny (model X.prog X.w) X.A (call (.ref C) us) (EP X pins σ Q) X.xe s := by
  have hq := h (s.heap.objs.size + 1) s.heap.objs.size (I.hok.fresh (Nat.le_succ _)) (I.hok.fresh (Nat.le_refl _)) (Nat.ne_of_lt (Nat.lt_succ_self _))
  have I2 := Inv.made (C := C) I
  have r2 : Vals (V.ref (s.heap.objs.size + 1) :: (vs ++ dvs)) (Value.ref (s.heap.objs.size + 1) :: (us ++ ds)) := .cons rfl (r.append hd)
  have hl : (Value.ref (s.heap.objs.size + 1) :: us ++ ds).length = ps.length := by
    have e := r2.length
    rw [F.len _ _ _ _ hq] at e
    exact e.symm
  refine wpAny_call (make_map (f := f) I.kIn M.makes M.init (beq_iff_eq.mp M.fn) (codeAny_mono (F.run _ X.stack _ _ ⟨Value.ref (s.heap.objs.size + 1) :: us, []⟩ (Value.ref (s.heap.objs.size + 1) :: (us ++ ds)) _ _ E (hr.make C us [])
    (I2.env0.make C us []) (hb _ (Value.ref (s.heap.objs.size + 1) :: us) I2.kIn hl) r2 hq) fun r s' hq' => ?_))
  cases r with
  | error e => exact hx pins σ _ _ e s' I2 hq'
  | ok fl =>
    cases fl with
    | ret u =>
      obtain ⟨v, H', I3, rv, ev, q3⟩ := I2.after hq'
      subst ev
      exact ⟨rv, ⟨V.ref (s.heap.objs.size + 1), H', I3, rfl, q3⟩⟩
    | next => exact False.elim hq'
    | brk => exact False.elim hq'
    | cont => exact False.elim hq'
theorem pe_make (M : Mk X.K C f) (F : FnOk X.prog X.w X.K X.mg X.base CX k f fd ps sp) (hr : Room (k + 1) X.A) (hg : Gl X x) (hm : X.mg x = some (.ref C)) (hb : Binds X.K fd ps ds) (hd : Vals dvs ds) (hx : Passes CX X E)
    (ha : PA X (e :: es) t) (hdb : (x == ("__debug__" : Str)) = false := by decide) (he : starEach (e :: es) X.env = (false, eval e X.env) :: starEach es X.env := by rfl) (hpl : (backTo pos (starEach es X.env)).any (·.1) = false := by rfl) :
    PE X (.Call (.Name x p) (e :: es) [] pos) (tMake C sp dvs E t) := by
  intro pins s σ H Q I h
  refine wpAny_Call_Name_kw (ld_glob I hg hm ?_ hdb)
  refine PySem.W.callWith_K (h₀ := X.base) I.ok.mod.kin M.kp (thn (ha pos pins s σ H _ I h) fun us s1 ⟨vs, H1, I1, r, q⟩ => ⟨I1.kIn, ?_⟩) he hpl
  exact run_make M F hr hb hd hx I1 r q
theorem pe_make0 (M : Mk X.K C f) (F : FnOk X.prog X.w X.K X.mg X.base CX k f fd ps sp) (hr : Room (k + 1) X.A) (hg : Gl X x) (hm : X.mg x = some (.ref C)) (hb : Binds X.K fd ps ds) (hd : Vals dvs ds) (hx : Passes CX X E)
    (hdb : (x == ("__debug__" : Str)) = false := by decide) : PE X (.Call (.Name x p) [] [] pos) (tMake C sp dvs E tNil) := by
  intro pins s σ H Q I h
  refine wpAny_Call_Name_kw (ld_glob I hg hm ?_ hdb)
  exact PySem.W.callWith_K0 I.kIn M.kp (run_make (us := []) M F hr hb hd hx I .nil h)
end
section
variable {X : Cx} {CX : CXT} {k : Nat} {f C : Addr} {fd : FuncData} {ps ks : List Str} {sp : Sp} {E : XK} {x m : Str} {p pos apos kpos : Pos} {e o : Expr} {es : List Expr} {kws : List Keyword} {te ta : TE} {t tk : TA} {nm : Option Str}
variable {g : List Value → List Value → List Value} {gV : List V → List V → List V}
end
structure FnScope (N P : List Str) (sc : Scope) : Prop where
  kind : sc.kind = .function
  co : sc.isCoroutine = false
  gen : sc.isGenerator = false
  nd : N.Nodup
  pre : N.take P.length = P
  par : ∀ x ∈ P, sc.names.lookup x = some .local ∨ sc.names.lookup x = some .cell
  nofree : ∀ y ∈ sc.names, y.2 ≠ .free
theorem bindL_out {kindOf : Str → Option NameKind} {x : Str} : ∀ {binds : List (Str × Value)} {m : Str → Option Value}, (∀ v, (x, v) ∉ binds) → bindL kindOf binds m x = m x
  | [], _, _ => rfl
  | (n, v) :: r, m, h => by
    unfold bindL
    rw [bindL_out fun w hw => h w (List.mem_cons_of_mem _ hw)]
    split
    · have : x ≠ n := by rintro rfl; exact h v List.mem_cons_self
      simp [this]
    · rfl
theorem bindC_out {kindOf : Str → Option NameKind} {x : Str} : ∀ {binds : List (Str × Value)} {m : Str → Option Value}, (∀ v, (x, v) ∉ binds) → bindC kindOf binds m x = m x
  | [], _, _ => rfl
  | (n, v) :: r, m, h => by
    unfold bindC
    rw [bindC_out fun w hw => h w (List.mem_cons_of_mem _ hw)]
    split
    · rfl
    · have : x ≠ n := by rintro rfl; exact h v List.mem_cons_self
      simp [this]
theorem bindL_get {kindOf : Str → Option NameKind} {x : Str} {v : Value} : ∀ {P : List Str} {vs : List Value} {i : Nat} {m : Str → Option Value}, P.Nodup → P[i]? = some x → vs[i]? = some v → kindOf x = some .local →
    bindL kindOf (P.zip vs) m x = some v
  | [], _, _, _, _, h, _, _ => by simp at h
  | _ :: _, [], _, _, _, _, h, _ => by simp at h
  | p :: P, w :: vs, 0, m, nd, h1, h2, hk => by
    simp at h1 h2; subst h1; subst h2
    show bindL kindOf ((p, w) :: P.zip vs) m p = _
    unfold bindL
    rw [bindL_out fun v hv => (List.nodup_cons.mp nd).1 (List.of_mem_zip hv).1, if_pos hk]
    simp
  | p :: P, w :: vs, i + 1, m, nd, h1, h2, hk => by
    show bindL kindOf ((p, w) :: P.zip vs) m x = _
    unfold bindL
    exact bindL_get (i := i) (List.nodup_cons.mp nd).2 (by simpa using h1) (by simpa using h2) hk
theorem bindC_get {kindOf : Str → Option NameKind} {x : Str} {v : Value} : ∀ {P : List Str} {vs : List Value} {i : Nat} {m : Str → Option Value}, P.Nodup → P[i]? = some x → vs[i]? = some v → kindOf x ≠ some .local →
    bindC kindOf (P.zip vs) m x = some v
  | [], _, _, _, _, h, _, _ => by simp at h
  | _ :: _, [], _, _, _, _, h, _ => by simp at h
  | p :: P, w :: vs, 0, m, nd, h1, h2, hk => by
    simp at h1 h2; subst h1; subst h2
    show bindC kindOf ((p, w) :: P.zip vs) m p = _
    unfold bindC
    rw [bindC_out fun v hv => (List.nodup_cons.mp nd).1 (List.of_mem_zip hv).1, if_neg hk]
    simp
  | p :: P, w :: vs, i + 1, m, nd, h1, h2, hk => by
    show bindC kindOf ((p, w) :: P.zip vs) m x = _
    unfold bindC
    exact bindC_get (i := i) (List.nodup_cons.mp nd).2 (by simpa using h1) (by simpa using h2) hk
def start (N : List Str) (vs : List V) : St := vs.map some ++ List.replicate (N.length - vs.length) none
def cxOf (CX : CXT) (P : Program) (w : World) (K : PySem.W.Frag) (mg : Str → Option Value) (base : Heap) (N : List Str) (qual : Str) (scope : Scope) (f : Addr) (cd : Value) (A : Around) (outer : List Env) (s : Shared) (H : Hp) (E : XK) : Cx where
  prog := P
  w := w
  K := K
  mg := mg
  base := base
  A := A.deeper (envOfC qual scope s.heap.objs.size f cd)
  N := N
  s_0 := s
  H_0 := H
  env := envOfC qual scope s.heap.objs.size f cd
  outer := outer
  stack := envOfC qual scope s.heap.objs.size f cd :: outer
  ex := []
  calm := true
  fn := fun _ => true
  pn := []
  xe := fun e s' => wpAny (model P w) (A.deeper (envOfC qual scope s.heap.objs.size f cd)) (leaving (envOfC qual scope s.heap.objs.size f cd) e) (fun _ s'' => CX outer H s E e s'') (fun e' s'' => CX outer H s E e' s'') s'
theorem cell_has {sc : Scope} {n : Nat} {x : Str} (h : sc.names.lookup x = some .cell) : ∃ c, (cellsFrom n sc.names []).lookup x = some c := by
  have q := PySem.W.cellsFrom_some sc.names n [] (.inl h)
  exact Option.isSome_iff_exists.mp q
theorem inv_start {CX : CXT} {P : Program} {w : World} {K : PySem.W.Frag} {mg : Str → Option Value} {base : Heap} {N ps : List Str} {qual : Str} {scope : Scope} {f : Addr} {cd : Value} {A : Around} {outer : List Env} {s s1 : Shared} {H : Hp} {E : XK} {us : List Value} {vs : List V}
    (S : FnScope N ps scope) (hd : A.handled = none) (e0 : Env0 P w K mg base A outer s H) (hl : vs.length = ps.length) (r : Vals vs us)
    (x : InCallC s s.heap.objs.size (bindL (envOfC qual scope s.heap.objs.size f cd).kindOf (ps.zip us) fun _ => none) (cellsFrom (s.heap.objs.size + 1) scope.names []) (bindC (envOfC qual scope s.heap.objs.size f cd).kindOf (ps.zip us) fun _ => none) s1) :
    Inv (cxOf CX P w K mg base N qual scope f cd A outer s H E) [] (start N vs) H s1 := by
  have hpl : ps.length ≤ N.length := by have := congrArg List.length S.pre; rw [List.length_take] at this; omega
  obtain ⟨h1, tk, rfl, hk⟩ := x.done
  have noA : ∀ b : Addr, b ∉ (cxOf CX P w K mg base N qual scope f cd A outer s H E).ex := fun b z => absurd (show b ∈ ([] : List Addr) from z) (by simp)
  refine ⟨⟨e0.mod, S.kind, rfl, rfl, Nat.le_refl _, fun y z c h1 h2 => ?_, fun y hy => ?_, fun y c _ h => ?_, fun _ => hd, Around.frames_deeper e0.frames, .inr ⟨rfl, rfl⟩, fun b z => absurd z (noA b), e0.bs, e0.bsz, fun b _ _ => noA b, fun b z => absurd z (noA b), e0.funs, e0.frf⟩,
    rfl, e0.bare, Un.kept hk, ⟨_, x.toInCall.ns, fun i y v h1 h2 h3 => ?_⟩, fun y c h => ⟨_, x.cell y c h⟩, e0.hok.fresh (Nat.le_refl _), fun y c h => ?_, fun p hp => absurd (show p ∈ ([] : List (Addr × Obj)) from hp) (by simp), e0.hok.kept hk, ?_⟩
  · exact name_of_addr x.apart (PySem.mem_of_lookup h1) (PySem.mem_of_lookup h2)
  · have hy : scope.names.lookup y = some .cell ∨ scope.names.lookup y = some .free := hy
    rcases hy with hy | hy
    · exact cell_has hy
    · exact absurd rfl (S.nofree _ (PySem.mem_of_lookup hy))
  · exact Nat.le_of_lt (x.above y c (PySem.mem_of_lookup h))
  · have hi : i < vs.length := by
      unfold start at h2
      by_cases hi : i < vs.length
      · exact hi
      · rw [List.getElem?_append_right (by simpa using hi)] at h2
        rw [List.getElem?_replicate] at h2
        split at h2 <;> cases h2
    have ha : vs[i]? = some v := by
      unfold start at h2
      rw [List.getElem?_append_left (by simpa using hi), List.getElem?_map] at h2
      cases e : vs[i]? with
      | none => rw [e] at h2; cases h2
      | some a => rw [e] at h2; cases h2; rfl
    obtain ⟨u, hu, rv⟩ := r.get ha
    have hp : ps[i]? = some y := by
      rw [← S.pre, List.getElem?_take_of_lt (by omega)]; exact h1
    have ndP : ps.Nodup := by rw [← S.pre]; exact S.nd.sublist (List.take_sublist _ _)
    refine ⟨u, rv, ?_⟩
    rcases S.par y (List.mem_of_getElem? hp) with k | k
    · exact .inl ⟨k, bindL_get ndP hp hu k⟩
    · obtain ⟨c, e⟩ := cell_has (n := s.heap.objs.size + 1) k
      refine .inr ⟨.inl k, c, e, ?_⟩
      have q := x.cell y c e
      rw [bindC_get ndP hp hu (by show scope.names.lookup y ≠ _; rw [k]; decide)] at q
      exact q
  · exact e0.hok.fresh (Nat.le_of_lt (x.above y c (PySem.mem_of_lookup h)))
  · unfold start
    show _ = N.length
    rw [List.length_append, List.length_map, List.length_replicate]
    omega
theorem fn_of {CX : CXT} {P : Program} {w : World} {K : PySem.W.Frag} {mg : Str → Option Value} {base : Heap} {k : Nat} {f : Addr} {name qual : Str} {params : Arguments} {body : List Stmt} {scope : Scope} {dV kV doc pm cdv ct oc : Value} {an od : Option Addr}
    {osl : Array (Option Value)} {N ps : List Str} {sp : Sp} (lk : K.lookup f = some ⟨oc, od, .func (PySem.W.fnOf name qual params body scope dV kV doc pm an cdv ct), osl⟩) (hcd : PySem.W.codeIn K cdv qual = true) (S : FnScope N ps scope)
    (len : ∀ vs H Q E, sp vs H Q E → vs.length = ps.length)
    (hbody : ∀ (A : Around) (outer : List Env) (s : Shared) (H : Hp) (vs : List V) (Q : VK) (E : XK), Room k (A.deeper (envOfC qual scope s.heap.objs.size f cdv)) → sp vs H Q E →
      ∃ t, PSs (cxOf CX P w K mg base N qual scope f cdv A outer s H E) body t ∧ t { nx := fun _ H' => Q .non H', rt := Q } (start N vs) H) :
    FnOk P w K mg base CX (k + 1) f (PySem.W.fnOf name qual params body scope dV kV doc pm an cdv ct) ps sp := by
  refine ⟨len, fun A outer s H args us vs Q E hr e0 hb r hsp => ?_⟩
  have hl := len _ _ _ _ hsp
  have KX : K.In s.heap := e0.mod.kin.keeps fun b o e => (e0.bs b o e).1
  have lim : s.heap.NoLimit := e0.mod.nolimit.keeps fun b o e => (e0.bs b o e).1
  have hkind : ∀ y ∈ ps.zip us, scope.names.lookup y.1 = some .local ∨ (scope.names.lookup y.1 = some .cell ∧ ((cellsFrom (s.heap.objs.size + 1) scope.names []).lookup y.1).isSome = true) := fun ⟨n, v⟩ hy => by
    rcases S.par n (List.of_mem_zip hy).1 with q | q
    · exact .inl q
    · exact .inr ⟨q, PySem.W.cellsFrom_some _ _ _ (.inl q)⟩
  refine codeAny_call_function hr.depth (KX _ _ lk) rfl S.co S.gen rfl (PySem.W.codeRec_of KX hcd) (hb _ _ _ _ ?_)
  refine wpAny_newFunctionEnv_cells S.kind hkind fun env he s1 x => ?_
  subst he
  refine ⟨lim.keeps x.toInCall.keep, codeAny_func ?_⟩
  obtain ⟨t, ht, hq⟩ := hbody A outer s H vs Q E (hr.deeper _) hsp
  have I : Inv (cxOf CX P w K mg base N qual scope f cdv A outer s H E) [] (start N vs) H s1 := inv_start S hr.hd e0 hl r x
  refine wpAny_mono (ht [] s1 (start N vs) H _ I hq) (fun fl s' hs => ?_) fun e s' hs => hs
  have fin : ∀ {σ' : St} {H' : Hp} {v : V} {u : Value}, Inv (cxOf CX P w K mg base N qual scope f cdv A outer s H E) [] σ' H' s' → RelV v u → Q v H' → CE outer P w H s Q u s' :=
    fun {σ' H' v u} J rv q => ⟨v, H', J.os, J.bare, J.base, J.hok, rv, q⟩
  cases fl with
  | ret u =>
    obtain ⟨v, σ', H', J, rv, q⟩ := hs
    exact fin J rv q
  | next =>
    obtain ⟨σ', H', J, q⟩ := hs
    exact fin (v := V.non) (u := Value.none) J rfl q
  | brk =>
    obtain ⟨_, _, _, q⟩ := hs
    exact False.elim q
  | cont =>
    obtain ⟨_, _, _, q⟩ := hs
    exact False.elim q
end L2
namespace L2
open PySem PySem.Spec PyProof.Rows
section
variable {X : Cx} {x : Str} {p pos : Pos} {e : Expr} {es : List Expr} {t : TA} {id T : String} {r : List V → Hp → VK → Prop}
def tCB (r : List V → Hp → VK → Prop) (t : TA) : TE := fun σ H Q => t σ H fun vs H1 => r vs H1 Q
theorem pe_callB (hc : CallR X (.builtin id) r) (hg : Gl X x) (hm : X.mg x = none) (hv : bootBuiltins x = some (.builtin id)) (ha : PA X (e :: es) t) (hn : x ≠ "__name__" := by decide) (hdb : (x == ("__debug__" : Str)) = false := by decide)
    (he : starEach (e :: es) X.env = (false, eval e X.env) :: starEach es X.env := by rfl) (hpl : (backTo pos (starEach es X.env)).any (·.1) = false := by rfl) : PE X (.Call (.Name x p) (e :: es) [] pos) (tCB r t) := by
  intro pins s σ H Q I h
  refine wpAny_Call_Name_kw (ld_blt I hg hm hv ?_ hn hdb)
  exact PyProof.Rows.callWith_builtin1 (thn (ha pos pins s σ H _ I h) fun us s1 ⟨vs, H1, I1, r1, q1⟩ => hc pins s1 σ H1 vs us Q I1 r1 q1) he hpl
end
end L2
namespace HT
open PySem PyProof.Rows
section
open PySem.SeqAt
open PySem.AutoSeq1 (wpAny_loadPart')
open PySem.MeetsSeq PySem.MeetsSeq2 PySem.MeetsSeq3
end
section
variable {prog : Program} {w : World} {A : Around} {E : Value → Shared → Prop} {s : Shared}
def sIx (n d : Nat) : Option Int → Nat
  | none => d
  | some v => if v < 0 then (v + (n : Int)).toNat else min v.toNat n
theorem sIx_nat (n d k : Nat) : sIx n d (some (k : Int)) = min k n := by
  show (if (k : Int) < 0 then ((k : Int) + (n : Int)).toNat else min (k : Int).toNat n) = min k n
  rw [if_neg (by omega), Int.toNat_natCast]
end
end HT
namespace L2
open PySem PySem.Spec PyProof.Rows
abbrev TO := St → Hp → (Option Int → Hp → Prop) → Prop
def PO (X : Cx) (e : Option Expr) (t : TO) : Prop :=
  ∀ (pins : List (Addr × Obj)) (s : Shared) (σ : St) (H : Hp) (Q : Option Int → Hp → Prop), Inv X pins σ H s → t σ H Q →
    wpAny (model X.prog X.w) X.A (evalPart e X.env) (fun u s' => ∃ o H', Inv X pins σ H' s' ∧ IsPart u o ∧ Q o H') X.xe s
def tPart (t : TE) : TO := fun σ H Q => t σ H fun x H1 => ∃ i, x = .int i ∧ Q (some i) H1
section
variable {X : Cx} {e : Expr} {te : TE} {lo hi : Option Expr} {tl th : TO} {pos p2 : Pos}
theorem po_some (h : PE X e te) : PO X (some e) (tPart te) := by
  intro pins s σ H Q I hw
  rw [evalPart_some]
  refine thn (h pins s σ H _ I hw) fun u s1 ⟨x, H1, I1, r1, q1⟩ => ?_
  obtain ⟨i, rfl, q⟩ := q1
  obtain ⟨t, rfl⟩ := r1
  exact ⟨some i, H1, I1, .int i t, q⟩
def SlR (X : Cx) (r : V → Option Int → Option Int → Hp → VK → Prop) : Prop :=
  ∀ (pins : List (Addr × Obj)) (s : Shared) (σ : St) (H : Hp) (x : V) (v vl vu : Value) (lo hi : Option Int) (sl : Addr) (Q : VK), Inv X pins σ H s → RelV x v → s.heap.IsSliceOf sl vl vu .none → IsPart vl lo → IsPart vu hi → r x lo hi H Q →
    ∃ T id, typeLookup (.type T) "__getitem__" = pure (some (.builtin id)) ∧ s.TypeIs v T ∧ wpAny (model X.prog X.w) X.A (getItem v (.ref sl)) (EP X pins σ Q) X.xe s
def tSl (r : V → Option Int → Option Int → Hp → VK → Prop) (te : TE) (tl th : TO) : TE := fun σ H Q => te σ H fun x H1 => tl σ H1 fun l H2 => th σ H2 fun u H3 => r x l u H3 Q
theorem pe_slice {r : V → Option Int → Option Int → Hp → VK → Prop} (hr : SlR X r) (he : PE X e te) (hl : PO X lo tl) (hu : PO X hi th) : PE X (.Subscript e (.Slice lo hi none p2) pos) (tSl r te tl th) := by
  intro pins s σ H Q I h
  refine Subscript_ (thn (he pins s σ H _ I h) fun v s1 ⟨x, H1, I1, r1, q1⟩ => ?_)
  refine wpAny_Slice (thn (hl pins s1 σ H1 _ I1 q1) fun vl s2 ⟨l, H2, I2, pl, q2⟩ => thn (hu pins s2 σ H2 _ I2 q2) fun vu s3 ⟨u, H3, I3, pu, q3⟩ => ?_)
  rw [evalPart_none]
  refine wpAny_pure ?_
  have I4 : Inv X pins σ H3 { s3 with heap := s3.heap.push { cls := .type "slice", data := .fields #[vl, vu, .none] } } := I3.kept (t' := s3.toks) fun b ob q => Heap.get?_push_of_some _ q
  obtain ⟨T, id, hT, ht, hg⟩ := hr pins { s3 with heap := s3.heap.push { cls := .type "slice", data := .fields #[vl, vu, .none] } } σ H3 x v vl vu l u s3.heap.objs.size Q I4 r1 (Heap.IsSliceOf.new ..) pl pu q3
  show wpAny (model X.prog X.w) X.A (subscriptTail e (.Slice lo hi none p2) v (.ref s3.heap.objs.size)) (EP X pins σ Q) X.xe { s3 with heap := s3.heap.push { cls := .type "slice", data := .fields #[vl, vu, .none] } }
  exact tail_any (ops := [.ref s3.heap.objs.size, v]) ht hT hg (by with_unfolding_all rfl)
def cutV (xs : List V) (lo hi : Option Int) : List V := (xs.drop (HT.sIx xs.length 0 lo)).take (HT.sIx xs.length xs.length hi - HT.sIx xs.length 0 lo)
theorem cutV_length (xs : List V) (lo hi : Option Int) : (cutV xs lo hi).length ≤ xs.length := by
  unfold cutV
  rw [List.length_take, List.length_drop]
  omega
end
end L2
namespace L2
open PySem PySem.Spec PyProof.Rows
def ixN (n : Nat) (i : Int) : Option Nat := if 0 ≤ i then (if i < n then some i.toNat else none) else if -(n : Int) ≤ i then some (i + n).toNat else none
def atI {α : Type} (xs : List α) (i : Int) : Option α := (ixN xs.length i).bind fun j => xs[j]?
theorem ixN_seq {n : Nat} {i : Int} {j : Nat} (h : ixN n i = some j) : seqIndex? i n = some j ∧ j < n ∧ -(n : Int) ≤ i ∧ i < n := by
  unfold ixN at h
  by_cases h0 : 0 ≤ i
  · rw [if_pos h0] at h
    by_cases h1 : i < n
    · rw [if_pos h1] at h
      have e : i.toNat = j := Option.some.inj h
      exact ⟨by rw [seqIndex_of h0 h1, e], by omega, by omega, h1⟩
    · rw [if_neg h1] at h; cases h
  · rw [if_neg h0] at h
    by_cases h1 : -(n : Int) ≤ i
    · rw [if_pos h1] at h
      have e : (i + n).toNat = j := Option.some.inj h
      exact ⟨by rw [seqIndex_neg (by omega) h1, e], by omega, h1, by omega⟩
    · rw [if_neg h1] at h; cases h
theorem atI_get {α : Type} {xs : List α} {i : Int} {v : α} (h : atI xs i = some v) : ∃ j, seqIndex? i xs.length = some j ∧ xs[j]? = some v ∧ j < xs.length ∧ -(xs.length : Int) ≤ i ∧ i < xs.length := by
  unfold atI at h
  cases e : ixN xs.length i with
  | none => rw [e] at h; cases h
  | some j =>
    rw [e] at h
    obtain ⟨h1, h2, h3, h4⟩ := ixN_seq e
    exact ⟨j, h1, h, h2, h3, h4⟩
theorem atI_nat {α : Type} {xs : List α} {j : Nat} {v : α} (h : xs[j]? = some v) : atI xs (j : Int) = some v := by
  have hj : j < xs.length := (List.getElem?_eq_some_iff.mp h).1
  have e : ixN xs.length (j : Int) = some j := by
    unfold ixN
    rw [if_pos (by omega), if_pos (by omega)]; simp
  unfold atI; rw [e]; exact h
def PlainIx (b : Expr) : Prop := ∀ o i, subscripted b false o i = operate [o, i] (getItem o i)
def IxR (X : Cx) (r : R2) : Prop :=
  ∀ (value slice : Expr) (pins : List (Addr × Obj)) (s : Shared) (σ : St) (H : Hp) (x y : V) (v u : Value) (Q : VK), Inv X pins σ H s → RelV x v → RelV y u → r x y H Q →
    subscripted slice false v u = operate [v, u] (getItem v u) → wpAny (model X.prog X.w) X.A (subscriptTail value slice v u) (EP X pins σ Q) X.xe s
def MtR (X : Cx) (id : String) (r : V → List V → Hp → VK → Prop) : Prop :=
  ∀ (pins : List (Addr × Obj)) (s : Shared) (σ : St) (H : Hp) (x : V) (xs : List V) (v : Value) (us : List Value) (Q : VK), Inv X pins σ H s → RelV x v → Vals xs us → r x xs H Q →
    wpAny (model X.prog X.w) X.A (call (.builtin id) (v :: us)) (EP X pins σ Q) X.xe s
section
variable {X : Cx} {a b : Expr} {ta tb : TE} {pos : Pos}
theorem IxR.or {r r' : R2} (h : IxR X r) (h' : IxR X r') : IxR X (fun x y H Q => r x y H Q ∨ r' x y H Q) := by
  intro value slice pins s σ H x y v u Q I rx ry q hs
  rcases q with q | q
  · exact h value slice pins s σ H x y v u Q I rx ry q hs
  · exact h' value slice pins s σ H x y v u Q I rx ry q hs
theorem pe_ix {r : R2} (hr : IxR X r) (ha : PE X a ta) (hb : PE X b tb) (hs : PlainIx b) : PE X (.Subscript a b pos) (tOp r ta tb) := by
  intro pins s σ H Q I h
  exact Subscript_ (binT ha hb I h fun v u s2 x y H2 I2 rx ry q => hr a b pins s2 σ H2 x y v u Q I2 rx ry q (hs _ _))
def rIxL (K : PySem.W.Frag) : R2 := fun x y H Q => ∃ p xs i v, x = .ref p ∧ y = .int i ∧ SqL K H p xs ∧ atI xs i = some v ∧ Q v H
def rIxT (K : PySem.W.Frag) : R2 := fun x y H Q => ∃ p xs i v, x = .ref p ∧ y = .int i ∧ SqT K H p xs ∧ atI xs i = some v ∧ Q v H
def rIxS : R2 := fun x y H Q => ∃ z i c, x = .str z ∧ y = .int i ∧ z.length ≤ sizeLine ∧ atI z.cps.toList i = some c ∧ Q (.str ⟨#[c]⟩) H
theorem ix_list : IxR X (rIxL X.K) := by
  intro value slice pins s σ H x y v u Q I rx ry h hs
  obtain ⟨p, xs, i, z, rfl, rfl, hq, he, q⟩ := h
  cases rx
  obtain ⟨t, rfl⟩ := ry
  obtain ⟨its, r, pl, hz⟩ := I.list hq
  obtain ⟨j, h1, h2, h3, h4, h5⟩ := atI_get he
  obtain ⟨w, ew, rw'⟩ := r.get h2
  have hl := r.length
  have hn := line63
  have fin : EP X pins σ Q w s := ⟨z, H, I, rw', q⟩
  by_cases h0 : 0 ≤ i
  · have hj : i.toNat = j := by
      rw [seqIndex_of h0 h5] at h1
      exact Option.some.inj h1
    exact item_listR pl.isList h0 (by omega) (by rw [hj]; simpa using ew) fin hs
  · have hj : (i + (its.toArray.size : Int)).toNat = j := by
      rw [seqIndex_neg (by omega) h4] at h1
      rw [List.size_toArray, ← hl]
      exact Option.some.inj h1
    exact subscriptTail_builtinR (x := w) pl.isList.typeIs slot_list_getitem.lookup
      (wpAny_getItem_list_neg (Q := fun r s' => r = w ∧ EP X pins σ Q r s') pl.isList (by omega) (by rw [List.size_toArray] <;> omega) (by omega) (by rw [hj]; simpa using ew) ⟨rfl, fin⟩) hs
theorem ix_tup : IxR X (rIxT X.K) := by
  intro value slice pins s σ H x y v u Q I rx ry h hs
  obtain ⟨p, xs, i, z, rfl, rfl, hq, he, q⟩ := h
  cases rx
  obtain ⟨t, rfl⟩ := ry
  obtain ⟨its, r, pl, hz⟩ := I.tuple hq
  obtain ⟨j, h1, h2, h3, h4, h5⟩ := atI_get he
  obtain ⟨w, ew, rw'⟩ := r.get h2
  have hl := r.length
  have hn := line63
  have fin : EP X pins σ Q w s := ⟨z, H, I, rw', q⟩
  exact subscriptTail_builtinR (x := w) pl.typeIs slot_tuple_getitem.lookup
    (getItem_tuple (j := j) (Q := fun r s' => r = w ∧ EP X pins σ Q r s') pl (by omega) (by omega) (by rw [List.size_toArray, ← hl]; exact h1) (by simpa using ew) ⟨rfl, fin⟩) hs
theorem ix_str : IxR X rIxS := by
  intro value slice pins s σ H x y v u Q I rx ry h hs
  obtain ⟨z, i, c, rfl, rfl, hz, he, q⟩ := h
  obtain ⟨t, rfl⟩ := rx
  obtain ⟨t', rfl⟩ := ry
  obtain ⟨j, h1, h2, h3, h4, h5⟩ := atI_get he
  have hl : z.cps.toList.length = z.length := by simp [Str.length]
  rw [hl] at h1 h4 h5
  have hn := line63
  exact tail_any (typeIs_str s z t) slot_str_getitem.lookup (getItem_str (c := c) (by
    have e1 : decide (i < -(2 ^ 63 : Int)) = false := decide_eq_false (by omega)
    have e2 : decide (i ≥ 2 ^ 63) = false := decide_eq_false (by omega)
    rw [e1, e2, Bool.or_false]) (by rw [h1]; simpa using h2) ⟨.str ⟨#[c]⟩, H, I.tok _, ⟨_, rfl⟩, q⟩) hs
def rIx (K : PySem.W.Frag) : R2 := fun x y H Q => rIxL K x y H Q ∨ rIxT K x y H Q ∨ rIxS x y H Q
theorem ix_seq : IxR X (rIx X.K) := ix_list.or (ix_tup.or ix_str)
theorem slice_bounds (lo hi : Option Int) (n : Nat) : (sliceBounds lo hi none n).1 = ((HT.sIx n 0 lo : Nat) : Int) ∧ (sliceBounds lo hi none n).2.1 = ((HT.sIx n n hi : Nat) : Int) ∧ (sliceBounds lo hi none n).2.2 = 1 := by
  refine ⟨?_, ?_, rfl⟩
  · cases lo with
    | none => simp [sliceBounds, HT.sIx]
    | some i =>
      simp only [sliceBounds, HT.sIx, Option.getD_none, show (1 : Int) > 0 by decide, if_true]
      by_cases h : i < 0
      · simp only [h, if_true] <;> omega
      · simp only [h, if_false] <;> omega
  · cases hi with
    | none => simp [sliceBounds, HT.sIx]
    | some i =>
      simp only [sliceBounds, HT.sIx, Option.getD_none, show (1 : Int) > 0 by decide, if_true]
      by_cases h : i < 0
      · simp only [h, if_true] <;> omega
      · simp only [h, if_false] <;> omega
theorem slicePick_cut (its : List Value) (lo hi : Option Int) : slicePick its.toArray lo hi none = ((its.drop (HT.sIx its.length 0 lo)).take (HT.sIx its.length its.length hi - HT.sIx its.length 0 lo)).toArray := by
  obtain ⟨h1, h2, h3⟩ := slice_bounds lo hi its.toArray.size
  unfold slicePick
  rw [h1, h2, h3]
  simp only [sliceRange_one, pick_run, List.size_toArray] <;> rfl
def rSlL (K : PySem.W.Frag) : V → Option Int → Option Int → Hp → VK → Prop := fun x lo hi H Q => ∃ a xs, x = .ref a ∧ SqL K H a xs ∧ ∀ p, H p = none → Q (.ref p) (upd H p (.lst (cutV xs lo hi)))
theorem sl_list : SlR X (rSlL X.K) := by
  intro pins s σ H x v vl vu lo hi sl Q I rx hs pl pu h
  obtain ⟨a, xs, rfl, hx, q⟩ := h
  cases rx
  obtain ⟨its, r, ht, hz⟩ := I.list hx
  have hlen := r.length
  refine ⟨"list", _, slot_list_getitem.lookup, ht.isList.typeIs, ?_⟩
  refine wpAny_getItem_list_slice ht.isList hs pl pu .none (by simp) ?_ (by rw [List.size_toArray] <;> omega)
  rw [slicePick_cut, ← hlen]
  refine ⟨.ref s.heap.objs.size, _, I.laid (t' := s.toks) (o := .lst (cutV xs lo hi)) (fun b ob q => Heap.get?_push_of_some _ q) (Nat.le_refl _) ?_, rfl, q _ (I.hok.fresh (Nat.le_refl _))⟩
  exact ⟨Nat.le_trans (cutV_length xs lo hi) hz, _, 0, (r.drop (HT.sIx xs.length 0 lo)).take (HT.sIx xs.length xs.length hi - HT.sIx xs.length 0 lo), Heap.get?_push_size _ rfl⟩
def flatV : V → Bool
  | .non => true
  | .bl _ => true
  | .int _ => true
  | .str _ => true
  | _ => false
def eqV : V → V → Bool
  | .non, .non => true
  | .bl a, .bl b => a == b
  | .bl a, .int b => (if a then 1 else 0) == b
  | .int a, .bl b => a == (if b then 1 else 0)
  | .int a, .int b => a == b
  | .str a, .str b => a == b
  | _, _ => false
theorem eqAt_V {A : Around} {s : Shared} {y x : V} {u v : Value} (ry : RelV y u) (rx : RelV x v) (fy : flatV y = true) (fx : flatV x = true) : SeqAt.EqAt A s u v (eqV y x) := by
  cases y with
  | non =>
    cases ry
    cases x with
    | non => cases rx; exact SeqAt.EqAt.same _
    | bl b => cases rx; exact SeqAt.EqAt.none_bool b
    | int b => obtain ⟨t, rfl⟩ := rx; exact SeqAt.EqAt.none_int b t
    | str b => obtain ⟨t, rfl⟩ := rx; exact SeqAt.EqAt.none_str b t
    | _ => exact absurd (show false = true from fx) Bool.false_ne_true
  | bl a =>
    cases ry
    cases x with
    | non => cases rx; exact SeqAt.EqAt.bool_none a
    | bl b => cases rx; exact SeqAt.EqAt.bool_bool a b
    | int b => obtain ⟨t, rfl⟩ := rx; exact SeqAt.EqAt.bool_int a b t
    | str b => obtain ⟨t, rfl⟩ := rx; exact SeqAt.EqAt.bool_str a b t
    | _ => exact absurd (show false = true from fx) Bool.false_ne_true
  | int a =>
    obtain ⟨t', rfl⟩ := ry
    cases x with
    | non => cases rx; exact SeqAt.EqAt.int_none a t'
    | bl b => cases rx; exact SeqAt.EqAt.int_bool a t' b
    | int b => obtain ⟨t, rfl⟩ := rx; exact SeqAt.EqAt.int_int a t' b t
    | str b => obtain ⟨t, rfl⟩ := rx; exact SeqAt.EqAt.int_str a t' b t
    | _ => exact absurd (show false = true from fx) Bool.false_ne_true
  | str a =>
    obtain ⟨t', rfl⟩ := ry
    cases x with
    | non => cases rx; exact SeqAt.EqAt.str_none a t'
    | bl b => cases rx; exact SeqAt.EqAt.str_bool a t' b
    | int b => obtain ⟨t, rfl⟩ := rx; exact SeqAt.EqAt.str_int a t' b t
    | str b => obtain ⟨t, rfl⟩ := rx; exact SeqAt.EqAt.str_str a t' b t
    | _ => exact absurd (show false = true from fx) Bool.false_ne_true
  | _ => exact absurd (show false = true from fy) Bool.false_ne_true
def eqU (x : V) (u : Value) : Bool := match u with
  | .none => eqV .non x
  | .bool b => eqV (.bl b) x
  | .int i _ => eqV (.int i) x
  | .str z _ => eqV (.str z) x
  | _ => false
theorem eqU_of {x y : V} {u : Value} (r : RelV y u) (f : flatV y = true) : eqU x u = eqV y x := by
  cases y with
  | non => cases r; rfl
  | bl b => cases r; rfl
  | int i => obtain ⟨t, rfl⟩ := r; rfl
  | str z => obtain ⟨t, rfl⟩ := r; rfl
  | _ => exact absurd (show false = true from f) Bool.false_ne_true
theorem any_eqU {x : V} : ∀ {xs : List V} {us : List Value}, Vals xs us → xs.all flatV = true → us.any (eqU x) = xs.any fun y => eqV y x
  | _, _, .nil, _ => rfl
  | y :: xs, u :: us, .cons r t, f => by
    rw [List.all_cons, Bool.and_eq_true] at f
    rw [List.any_cons, List.any_cons, eqU_of r f.1, any_eqU t f.2]
theorem mem_eqAt {A : Around} {s : Shared} {x : V} {v : Value} (rx : RelV x v) (fx : flatV x = true) : ∀ {xs : List V} {us : List Value}, Vals xs us → xs.all flatV = true → ∀ u ∈ us, SeqAt.EqAt A s u v (eqU x u)
  | _, _, .nil, _ => fun u hu => by cases hu
  | y :: xs, u :: us, .cons r t, f => fun u' hu => by
    rw [List.all_cons, Bool.and_eq_true] at f
    rcases List.mem_cons.mp hu with rfl | hu
    · rw [eqU_of r f.1]; exact eqAt_V r rx f.1 fx
    · exact mem_eqAt rx fx t f.2 u' hu
def inV (x : V) (xs : List V) : Bool := xs.any fun y => eqV y x
def rIn (K : PySem.W.Frag) (neg : Bool) : R2 := fun x y H Q => ∃ p xs, y = .ref p ∧ (SqL K H p xs ∨ SqT K H p xs) ∧ flatV x = true ∧ xs.all flatV = true ∧ Q (.bl (if neg then !inV x xs else inV x xs)) H
theorem op_in_seq : OpR X (compareOp .In) (rIn X.K false) := by
  intro pins s σ H x y v u Q I rx ry h
  obtain ⟨p, xs, rfl, hq, fx, fs, q⟩ := h
  cases ry
  rcases hq with hq | hq
  · obtain ⟨its, r, pl, hz⟩ := I.list hq
    refine SeqAt.in_listAt (eqU x) pl.isList (fun w hw => mem_eqAt rx fx r fs w (by simpa using hw)) ⟨.bl _, H, I, rfl, ?_⟩
    rw [show its.toArray.any (eqU x) = its.any (eqU x) by simp, any_eqU r fs]
    exact q
  · obtain ⟨its, r, pl, hz⟩ := I.tuple hq
    refine SeqAt.in_tupleAt (eqU x) pl (fun w hw => mem_eqAt rx fx r fs w (by simpa using hw)) ⟨.bl _, H, I, rfl, ?_⟩
    rw [show its.toArray.any (eqU x) = its.any (eqU x) by simp, any_eqU r fs]
    exact q
theorem op_notIn_seq : OpR X (compareOp .NotIn) (rIn X.K true) := by
  intro pins s σ H x y v u Q I rx ry h
  obtain ⟨p, xs, rfl, hq, fx, fs, q⟩ := h
  cases ry
  rcases hq with hq | hq
  · obtain ⟨its, r, pl, hz⟩ := I.list hq
    refine SeqAt.notIn_listAt (eqU x) pl.isList (fun w hw => mem_eqAt rx fx r fs w (by simpa using hw)) ⟨.bl _, H, I, rfl, ?_⟩
    rw [show its.toArray.any (eqU x) = its.any (eqU x) by simp, any_eqU r fs]
    exact q
  · obtain ⟨its, r, pl, hz⟩ := I.tuple hq
    refine SeqAt.notIn_tupleAt (eqU x) pl (fun w hw => mem_eqAt rx fx r fs w (by simpa using hw)) ⟨.bl _, H, I, rfl, ?_⟩
    rw [show its.toArray.any (eqU x) = its.any (eqU x) by simp, any_eqU r fs]
    exact q
theorem call_len_seq : CallR X (.builtin "len") (fun xs H Q => ∃ p ys, xs = [.ref p] ∧ (SqL X.K H p ys ∨ SqT X.K H p ys) ∧ Q (.int ys.length) H) := by
  intro pins s σ H xs us Q I r h
  obtain ⟨p, ys, rfl, hq, q⟩ := h
  obtain ⟨u, rfl, rx⟩ := vals1 r
  cases rx
  have hn := line63
  rcases hq with hq | hq
  · obtain ⟨its, r', pl, hz⟩ := I.list hq
    have hlen := r'.length
    exact Calls.call_len_list pl.isList (by simp only [List.size_toArray] <;> omega) ⟨.int ys.length, H, I.tok _, ⟨s.toks + 1, by rw [List.size_toArray, hlen]⟩, q⟩
  · obtain ⟨its, r', pl, hz⟩ := I.tuple hq
    have hlen := r'.length
    exact len_tuple pl (by simp only [List.size_toArray] <;> omega) ⟨.int ys.length, H, I.tok _, ⟨s.toks + 1, by rw [List.size_toArray, hlen]⟩, q⟩
theorem call_list_of : CallR X (.type "list") (fun xs H Q => ∃ p ys, xs = [.ref p] ∧ (SqL X.K H p ys ∨ SqT X.K H p ys) ∧ ∀ l, H l = none → Q (.ref l) (upd H l (.lst ys))) := by
  intro pins s σ H xs us Q I r h
  obtain ⟨p, ys, rfl, hq, q⟩ := h
  obtain ⟨u, rfl, rx⟩ := vals1 r
  cases rx
  have fin : ∀ (its : List Value), Vals ys its → ys.length ≤ sizeLine → ∀ (h' : Heap) (c' : Nat), (∀ b o', s.heap.get? b = some o' → h'.get? b = some o') →
      h'.get? s.heap.objs.size = some { cls := .type "list", dict := none, data := .seq its.toArray c', slots := #[] } → EP X pins σ Q (.ref s.heap.objs.size) { s with heap := h' } := fun its r' hz h' c' kp e =>
    ⟨.ref s.heap.objs.size, _, I.laid (t' := s.toks) kp (Nat.le_refl _) (show ObjOk X.prog X.w _ h' _ (.lst ys) from ⟨hz, its, c', r', e⟩), rfl, q _ (I.hok.fresh (Nat.le_refl _))⟩
  rcases hq with hq | hq
  · obtain ⟨its, r', pl, hz⟩ := I.list hq
    have hlen := r'.length
    obtain ⟨o, ho, hc, n, hd⟩ := pl.isList
    exact call_list_seq p (.inl rfl) ho hc hd (fun h' c' kp e => fin its r' hz h' c' kp e) (by simp only [List.size_toArray] <;> omega)
  · obtain ⟨its, r', pl, hz⟩ := I.tuple hq
    have hlen := r'.length
    obtain ⟨o, ho, hc, n, hd⟩ := pl
    exact call_list_seq p (.inr rfl) ho hc hd (fun h' c' kp e => fin its r' hz h' c' kp e) (by simp only [List.size_toArray] <;> omega)
def tyV (K : PySem.W.Frag) (T : String) (x : V) (H : Hp) : Prop := match x with
  | .str _ => T = "str"
  | .int _ => T = "int"
  | .ref p => (T = "list" ∧ ∃ xs, SqL K H p xs) ∨ (T = "tuple" ∧ ∃ o, K.lookup p = some o ∧ o.cls = .type "tuple" ∧ o.dict = none) ∨
      (T = "dict" ∧ ((∃ kvs, H p = some (.dK kvs)) ∨ ∃ kvs, H p = some (.dT kvs))) ∨ (T = "set" ∧ ∃ S n, H p = some (.set S n))
  | _ => False
theorem tyV_is {pins : List (Addr × Obj)} {σ : St} {H : Hp} {s : Shared} {T : String} {x : V} {v : Value} (I : Inv X pins σ H s) (r : RelV x v) (ty : tyV X.K T x H) :
    s.TypeIs v T ∧ ∀ a, v = .ref a → ∃ ob, s.heap.get? a = some ob ∧ ob.dict = none := by
  cases x with
  | str z =>
    obtain ⟨t, rfl⟩ := r
    cases (show T = "str" from ty)
    exact ⟨typeIs_str s z t, fun _ e => nomatch e⟩
  | int i =>
    obtain ⟨t, rfl⟩ := r
    cases (show T = "int" from ty)
    exact ⟨typeIs_int s i t, fun _ e => nomatch e⟩
  | ref p =>
    cases r
    rcases ty with ⟨rfl, xs, hq⟩ | ⟨rfl, o, hk, hc, hd⟩ | ⟨rfl, hk⟩ | ⟨rfl, S, n, hk⟩
    · obtain ⟨its, _, pl, _⟩ := I.list hq
      refine ⟨pl.isList.typeIs, fun a e => ?_⟩
      cases e
      obtain ⟨o, n, e, c, hd, _⟩ := pl
      exact ⟨o, e, hd⟩
    · refine ⟨⟨o, I.kIn p o hk, hc⟩, fun a e => ?_⟩
      cases e
      exact ⟨o, I.kIn _ o hk, hd⟩
    · have z : ∃ o, s.heap.get? p = some o ∧ o.ExactDict := by
        rcases hk with ⟨kvs, hk⟩ | ⟨kvs, hk⟩
        · obtain ⟨_, _, _, _, o, _, _, e, ex, _⟩ := I.hok p _ hk
          exact ⟨o, e, ex⟩
        · obtain ⟨_, _, _, _, o, _, _, e, ex, _⟩ := I.hok p _ hk
          exact ⟨o, e, ex⟩
      obtain ⟨o, e, ex⟩ := z
      refine ⟨⟨o, e, ex.1⟩, fun a e2 => ?_⟩
      cases e2
      exact ⟨o, e, ex.2.1⟩
    · obtain ⟨o, _, _, _, e, ex, _⟩ := I.hok p _ hk
      refine ⟨⟨o, e, ex.1⟩, fun a e2 => ?_⟩
      cases e2
      exact ⟨o, e, ex.2.1⟩
  | _ => exact False.elim ty
def tBM (K : PySem.W.Frag) (T : String) (r : V → List V → Hp → VK → Prop) (to : TE) (t : TA) : TE := fun σ H Q => to σ H fun x H1 => tyV K T x H1 ∧ t σ H1 fun xs H2 => r x xs H2 Q
variable {o e : Expr} {es : List Expr} {to : TE} {t : TA} {name : Str} {apos cpos : Pos} {T id : String} {r : V → List V → Hp → VK → Prop}
theorem pe_bm (pa : PlainAttrs T) (slot : Slot T name id) (hty : typeOf (.builtin id) = pure (.type "method_descriptor")) (hm : MtR X id r) (ho : PE X o to) (ha : PA X (e :: es) t)
    (hbase : attributeBase o name X.env (eval o X.env) = eval o X.env := by rfl)
    (hfew : ((backTo cpos (starEach (e :: es) X.env)).all (fun x => !x.1) && (backToKw cpos (keywordEach [] X.env)).all (fun x => x.1.isSome)
      && decide ((e :: es).length + ([] : List Keyword).length + (if ([] : List Keyword).isEmpty then 0 else 1) < 30)) = true := by rfl)
    (hline : (apos.endLine == cpos.line) = true := by rfl) (hs : starEach (e :: es) X.env = (false, eval e X.env) :: starEach es X.env := by rfl) (hplain : (backTo cpos (starEach es X.env)).any (·.1) = false := by rfl) :
    PE X (.Call (.Attribute o name apos) (e :: es) [] cpos) (tBM X.K T r to t) := by
  intro pins s σ H Q I h
  refine wpAny_Call_method_late hbase hfew hline rfl (thn (ho pins s σ H _ I h) fun v s1 ⟨x, H1, I1, r1, ty, q1⟩ => ?_)
  obtain ⟨h1, h2⟩ := tyV_is I1 r1 ty
  refine ⟨T, id, pa, slot, hty, h1, h2, ?_⟩
  have hA := ha cpos pins s1 σ H1 _ I1 q1
  rw [hs] at hA ⊢
  refine Calls.callWith_builtin (by show (false || (backTo cpos (starEach es X.env)).any (·.1)) = false; rw [hplain] <;> rfl) (Calls.evalArgs_plain ?_)
  exact thn hA fun us s2 ⟨vs, H2, I2, r2, q2⟩ => hm pins s2 σ H2 x vs v us Q I2 r1 r2 q2
end
end L2
namespace L2
open PySem PySem.Spec PyProof.Rows
def MtM (X : Cx) (id : String) (r : V → List V → Hp → VK → Prop) : Prop :=
  ∀ (pins : List (Addr × Obj)) (s : Shared) (σ : St) (H : Hp) (x : V) (xs : List V) (v : Value) (us : List Value) (Q : VK), Inv X pins σ H s → RelV x v → Vals xs us → r x xs H Q →
    wpAny (model X.prog X.w) X.A (call (.builtin id) (v :: us)) (EP X pins σ Q) X.xe s
theorem Vals.one : ∀ {x : V} {us : List Value}, Vals [x] us → ∃ u, us = [u] ∧ RelV x u
  | _, _, .cons r .nil => ⟨_, rfl, r⟩
section
variable {X : Cx} {pins : List (Addr × Obj)} {σ : St} {H : Hp} {s : Shared} {l b : Addr} {xs ys zs : List V}
theorem Inv.lset {its its' : List Value} {n : Nat} {f : Array Value → Array Value} {t' : Nat} (I : Inv X pins σ H s) (hH : H l = some (.lst xs))
    (e : s.heap.get? l = some { cls := .type "list", data := .seq its.toArray n }) (hf : f its.toArray = its'.toArray) (hv : Vals ys its') (hz : ys.length ≤ sizeLine) :
    Inv X pins σ (upd H l (.lst ys)) { s with heap := s.heap.update l (Obj.mapSeq f), toks := t' } := by
  have q := PySem.IsL.update e f
  rw [hf] at q
  refine I.write (x := l) (e := l) (by rw [hH]; exact trivial) (.inl rfl) (fun b' u hb hu => (Heap.get?_update_other s.heap (Obj.mapSeq f) (Ne.symm hb)).trans hu) ⟨_, q⟩ ?_
  exact ⟨hz, its', _, hv, q⟩
theorem Inv.lnew {its : List Value} {t' : Nat} (I : Inv X pins σ H s) (hv : Vals ys its) (hz : ys.length ≤ sizeLine) :
    Inv X pins σ (upd H s.heap.objs.size (.lst ys)) { s with heap := s.heap.push { cls := .type "list", data := .seq its.toArray }, toks := t' } :=
  I.laid (fun _ _ q => Heap.get?_push_of_some _ q) (Nat.le_refl _) ⟨hz, its, 0, hv, Heap.get?_push_size _ rfl⟩
theorem Inv.fresh (I : Inv X pins σ H s) : H s.heap.objs.size = none := I.hok.fresh (Nat.le_refl _)
theorem Inv.lstM (I : Inv X pins σ H s) (hH : H l = some (.lst xs)) : xs.length ≤ sizeLine ∧ ∃ (its : List Value) (n : Nat), Vals xs its ∧ xs.length = its.length ∧ s.heap.get? l = some { cls := .type "list", data := .seq its.toArray n } := by
  obtain ⟨z, its, n, r, e⟩ := I.hok l _ hH
  exact ⟨z, its, n, r, r.length, e⟩
theorem notLongL {n : Nat} (h : n ≤ sizeLine) : Builtin.List.listTooLong n = false := by
  unfold Builtin.List.listTooLong
  exact decide_eq_false (by omega)
end
section
variable {X : Cx}
def rAppend : V → List V → Hp → VK → Prop := fun x vs H Q => ∃ l xs y, x = .ref l ∧ vs = [y] ∧ H l = some (.lst xs) ∧ xs.length < sizeLine ∧ Q .non (upd H l (.lst (xs ++ [y])))
theorem mt_append : MtM X "list.append" rAppend := by
  intro pins s σ H x vs v us Q I rx rv h
  obtain ⟨l, xs, y, rfl, rfl, hH, hz, q⟩ := h
  cases rx
  obtain ⟨u, rfl, ru⟩ := rv.one
  obtain ⟨z, its, n, r, hl, e⟩ := I.lstM hH
  refine call_meets F.slot_list_append ⟨_, e, rfl⟩ F.entry_list_append (F.args_list_append_2 _ _) (PySem.list_append l its.toArray n u (by rw [List.size_toArray]; omega)) ⟨e, ?_⟩
  refine ⟨.non, _, I.lset (its' := its ++ [u]) hH e (by simp) (r.append (.cons ru .nil)) ?_, rfl, q⟩
  rw [List.length_append, List.length_singleton]
  omega
def rExtend : V → List V → Hp → VK → Prop := fun x vs H Q => ∃ l b xs zs, x = .ref l ∧ vs = [.ref b] ∧ H l = some (.lst xs) ∧ H b = some (.lst zs) ∧ xs.length + zs.length ≤ sizeLine ∧ Q .non (upd H l (.lst (xs ++ zs)))
theorem mt_extend : MtM X "list.extend" rExtend := by
  intro pins s σ H x vs v us Q I rx rv h
  obtain ⟨l, b, xs, zs, rfl, rfl, hH, hB, hz, q⟩ := h
  cases rx
  obtain ⟨u, rfl, ru⟩ := rv.one
  cases ru
  obtain ⟨z, its, n, r, hl, e⟩ := I.lstM hH
  obtain ⟨z2, its2, n2, r2, hl2, e2⟩ := I.lstM hB
  have hsz : its.toArray.size + its2.toArray.size ≤ sizeLine := by rw [List.size_toArray, List.size_toArray]; omega
  have hlong : ¬ (!its.toArray.isEmpty && Builtin.List.listTooLong (its.toArray.size + its2.toArray.size)) = true := by
    rw [notLongL hsz, Bool.and_false]
    exact Bool.false_ne_true
  refine call_meets F.slot_list_extend ⟨_, e, rfl⟩ F.entry_list_extend (F.args_list_extend_2 _ _)
    (AutoSeq1.list_extend_list_list_0 l its.toArray n b its2.toArray n2 hlong (by rw [List.size_toArray]; omega) (by omega)) ⟨e, e2, ?_⟩
  refine ⟨.non, _, I.lset (its' := its ++ its2) hH e (by simp) (r.append r2) ?_, rfl, q⟩
  rw [List.length_append]
  omega
def rCat : R2 := fun x y H Q => ∃ l b xs zs, x = .ref l ∧ y = .ref b ∧ H l = some (.lst xs) ∧ H b = some (.lst zs) ∧ xs.length + zs.length ≤ sizeLine ∧ ∀ p, H p = none → Q (.ref p) (upd H p (.lst (xs ++ zs)))
theorem op_cat : OpR X (binaryOp .Add) rCat := by
  intro pins s σ H x y v u Q I rx ry h
  obtain ⟨l, b, xs, zs, rfl, rfl, hH, hB, hz, q⟩ := h
  cases rx
  cases ry
  obtain ⟨z, its, n, r, hl, e⟩ := I.lstM hH
  obtain ⟨z2, its2, n2, r2, hl2, e2⟩ := I.lstM hB
  refine PySem.P.add_list e e2 ?_ (by rw [List.size_toArray, List.size_toArray]; omega)
  have ea : its.toArray ++ its2.toArray = (its ++ its2).toArray := by simp
  rw [ea]
  exact ⟨.ref _, _, I.lnew (t' := s.toks) (r.append r2) (by rw [List.length_append]; omega), rfl, q _ I.fresh⟩
end
section
variable {prog : Program} {w : World} {A : Around} {E : Value → Shared → Prop} {s : Shared}
end
section
variable {X : Cx}
end
end L2
namespace L2
open PySem PySem.Spec PyProof.Rows
theorem Vals.ints : ∀ {ns : List Int} {us : List Value}, Vals (ns.map V.int) us → IntsAre us ns
  | [], us, h => by
    rw [List.map_nil] at h
    cases h
    exact IntsAre.nil
  | n :: ns, us, h => by
    rw [List.map_cons] at h
    cases h with
    | cons r t =>
      obtain ⟨k, rfl⟩ := r
      exact IntsAre.cons n k (Vals.ints t)
theorem Vals.ref1 {a : Addr} {us : List Value} (r : Vals [V.ref a] us) : us = [Value.ref a] := by
  cases r with
  | cons r t =>
    cases t
    cases r
    rfl
section
variable {prog : Program} {w : World} {A : Around} {E : Value → Shared → Prop} {s : Shared} {l : Addr} {its : List Value} {ns : List Int} {Q : Value → Shared → Prop}
theorem sum_raw (hh : A.handled = none) (hl : s.heap.IsList l its.toArray) (hi : IntsAre its ns)
    (h : ∀ h' tk t', (∀ b o, s.heap.get? b = some o → h'.get? b = some o) → Q (.int ns.sum t') { s with heap := h', toks := tk }) : wpAny (model prog w) A (call (.builtin "sum") [.ref l]) Q E s := by
  obtain ⟨xs, e⟩ := hi.allInts.items
  have hn : numsOf (intItems xs).toList = ns := by rw [← e]; exact hi.numsOf
  rw [nums_intItems] at hn
  rw [e] at hl
  refine PySem.sum_intListG hh hl fun h' tk t' hk => ?_
  have := h h' tk t' hk
  rw [preSum_eq, List.take_of_length_le (by simp), hn]; exact this
end
section
variable {X : Cx}
def rSum (K : PySem.W.Frag) : List V → Hp → VK → Prop := fun vs H Q => ∃ (a : Addr) (ns : List Int), vs = [V.ref a] ∧ SqL K H a (ns.map V.int) ∧ Q (.int ns.sum) H
theorem cr_sum (hc : X.calm = true) : CallR X (.builtin "sum") (rSum X.K) := by
  intro pins s σ H vs us Q I r h
  obtain ⟨a, ns, rfl, hs, q⟩ := h
  obtain ⟨its, rv, hl, _⟩ := I.list hs
  rw [Vals.ref1 r]
  exact sum_raw (I.ok.hd hc) hl.isList rv.ints fun h' tk t' hk => ⟨.int _, H, I.kept hk, ⟨_, rfl⟩, q⟩
end
section
variable {X : Cx}
end
section
variable {X : Cx}
end
section
variable {X : Cx}
end
section
variable {X : Cx} {pins : List (Addr × Obj)} {σ : St} {H : Hp} {s : Shared}
end
section
variable {X : Cx}
end
end L2
namespace L2
open PySem PySem.Spec PyProof.Rows
abbrev CellAt (h : Heap) (c : Addr) (v : Option Value) : Prop := h.IsCell c v
def relS (scope sc : Scope) : Scope :=
  { scope with names := scope.names.map fun (n, k) => if (k == .free && sc.kind == .function && sc.names.lookup n == some .cell) then (n, .cell) else (n, k) }
def cloFrom (cells : List (Str × Addr)) : List (Str × NameKind) → List (Str × Addr) → List (Str × Addr)
  | [], acc => acc
  | (n, k) :: r, acc => if k == .free then cloFrom cells r ((n, (cells.lookup n).getD 0) :: acc) else cloFrom cells r acc
theorem closure_loop (env : Env) (f : Str × NameKind → List (Str × Addr) → Sem (ForInStep (List (Str × Addr))))
    (hf : ∀ n k c, f (n, k) c = if k == .free then (do let a ← cellOf env n; pure (.yield ((n, a) :: c))) else pure (.yield c)) :
    ∀ (names : List (Str × NameKind)) (acc : List (Str × Addr)), (∀ y ∈ names, y.2 = .free → ∃ c, env.cells.lookup y.1 = some c) → forIn names acc f = pure (cloFrom env.cells names acc)
  | [], acc, _ => by rw [List.forIn_nil]; rfl
  | (n, k) :: r, acc, h => by
    rw [List.forIn_cons, hf]
    have ih := fun acc => closure_loop env f hf r acc fun y hy => h y (List.mem_cons_of_mem _ hy)
    unfold cloFrom
    by_cases hk : (k == NameKind.free) = true
    · rw [if_pos hk, if_pos hk]
      obtain ⟨c, hc⟩ := h (n, k) List.mem_cons_self (by simpa using hk)
      have e : cellOf env n = pure c := by unfold cellOf; rw [hc]
      rw [e]
      have e2 : (env.cells.lookup n).getD 0 = c := by rw [hc]; rfl
      rw [e2]
      exact ih _
    · rw [if_neg hk, if_neg hk]
      exact ih _
theorem closure_ok {scope : Scope} {env : Env} (h : ∀ y ∈ scope.names, y.2 = .free → ∃ c, env.cells.lookup y.1 = some c) : closureFor scope env = pure (cloFrom env.cells scope.names []) := by
  simp only [closureFor]
  rw [closure_loop env _ (fun n k c => rfl) scope.names [] h]
  rfl
theorem mem_lookup {α : Type} : ∀ {l : List (Str × α)} {n : Str} {c : α}, (n, c) ∈ l → ∃ c', l.lookup n = some c'
  | (k, v) :: r, n, c, h => by
    rw [List.lookup_cons]
    cases hb : n == k with
    | true => exact ⟨_, rfl⟩
    | false =>
      rcases List.mem_cons.mp h with e | h
      · cases e; simp at hb
      · exact mem_lookup h
theorem cloFrom_mem {cells : List (Str × Addr)} : ∀ {names : List (Str × NameKind)} {acc : List (Str × Addr)} {n : Str} {c : Addr}, (n, c) ∈ cloFrom cells names acc → (n, c) ∈ acc ∨ ((n, .free) ∈ names ∧ c = (cells.lookup n).getD 0)
  | [], _, _, _, h => .inl h
  | (m, k) :: r, acc, n, c, h => by
    unfold cloFrom at h
    split at h
    · rename_i hk
      have hk : k = .free := by simpa using hk
      rcases cloFrom_mem h with h | ⟨h1, h2⟩
      · rcases List.mem_cons.mp h with e | h
        · cases e; exact .inr ⟨hk ▸ List.mem_cons_self, rfl⟩
        · exact .inl h
      · exact .inr ⟨List.mem_cons_of_mem _ h1, h2⟩
    · rcases cloFrom_mem h with h | ⟨h1, h2⟩
      · exact .inl h
      · exact .inr ⟨List.mem_cons_of_mem _ h1, h2⟩
theorem cloFrom_acc {cells : List (Str × Addr)} : ∀ {names : List (Str × NameKind)} {acc : List (Str × Addr)} {p : Str × Addr}, p ∈ acc → p ∈ cloFrom cells names acc
  | [], _, _, h => h
  | (m, k) :: r, acc, p, h => by
    unfold cloFrom
    split
    · exact cloFrom_acc (List.mem_cons_of_mem _ h)
    · exact cloFrom_acc h
theorem cloFrom_has {cells : List (Str × Addr)} : ∀ {names : List (Str × NameKind)} {acc : List (Str × Addr)} {n : Str}, (n, .free) ∈ names → (n, (cells.lookup n).getD 0) ∈ cloFrom cells names acc
  | (m, k) :: r, acc, n, h => by
    unfold cloFrom
    rcases List.mem_cons.mp h with e | h
    · cases e
      exact cloFrom_acc List.mem_cons_self
    · split
      · exact cloFrom_has h
      · exact cloFrom_has h
theorem cells_mem : ∀ {names : List (Str × NameKind)} {h : Heap} {acc : List (Str × Addr)} {x : Str} {c : Addr}, (x, c) ∈ cellsFrom h.objs.size names acc →
    (x, c) ∈ acc ∨ ((x, .cell) ∈ names ∧ h.objs.size ≤ c ∧ CellAt (pushCells h names) c none)
  | [], _, _, _, _, h => .inl h
  | (n, k) :: r, h, acc, x, c, hm => by
    unfold cellsFrom at hm
    unfold pushCells
    split at hm
    · rename_i hk
      rw [if_pos hk]
      have hk : k = .cell := by simpa using hk
      rw [← Heap.size_push h { cls := .type "cell", data := .cell none }] at hm
      rcases cells_mem hm with hm | ⟨h1, h2, h3⟩
      · rcases List.mem_cons.mp hm with e | hm
        · cases e
          exact .inr ⟨hk ▸ List.mem_cons_self, Nat.le_refl _, _, pushCells_keeps r _ _ _ (Heap.get?_push_size _ rfl), rfl⟩
        · exact .inl hm
      · rw [Heap.size_push] at h2
        exact .inr ⟨List.mem_cons_of_mem _ h1, Nat.le_of_succ_le h2, h3⟩
    · rename_i hk
      rw [if_neg hk]
      rcases cells_mem hm with hm | ⟨h1, h2, h3⟩
      · exact .inl hm
      · exact .inr ⟨List.mem_cons_of_mem _ h1, h2, h3⟩
theorem cells_acc : ∀ {names : List (Str × NameKind)} {n : Nat} {acc : List (Str × Addr)} {p : Str × Addr}, p ∈ acc → p ∈ cellsFrom n names acc
  | [], _, _, _, h => h
  | (m, k) :: r, n, acc, p, h => by
    unfold cellsFrom
    split
    · exact cells_acc (List.mem_cons_of_mem _ h)
    · exact cells_acc h
theorem cells_has : ∀ {names : List (Str × NameKind)} {n : Nat} {acc : List (Str × Addr)} {x : Str}, (x, .cell) ∈ names → ∃ c, (x, c) ∈ cellsFrom n names acc
  | (m, k) :: r, n, acc, x, h => by
    unfold cellsFrom
    rcases List.mem_cons.mp h with e | h
    · cases e
      exact ⟨n, cells_acc List.mem_cons_self⟩
    · split
      · exact cells_has h
      · exact cells_has h
theorem cells_inj : ∀ {names : List (Str × NameKind)} {h : Heap} {acc : List (Str × Addr)} {x y : Str} {c : Addr}, (∀ p ∈ acc, p.2 < h.objs.size) → (∀ x y c, (x, c) ∈ acc → (y, c) ∈ acc → x = y) →
    (x, c) ∈ cellsFrom h.objs.size names acc → (y, c) ∈ cellsFrom h.objs.size names acc → x = y
  | [], _, _, _, _, _, _, hi, h1, h2 => hi _ _ _ h1 h2
  | (n, k) :: r, h, acc, x, y, c, hl, hi, h1, h2 => by
    unfold cellsFrom at h1 h2
    split at h1
    · rename_i hk
      rw [if_pos hk] at h2
      rw [← Heap.size_push h { cls := .type "cell", data := .cell none }] at h1 h2
      refine cells_inj (h := h.push _) (fun p hp => ?_) (fun x y c a b => ?_) h1 h2
      · rw [Heap.size_push]
        rcases List.mem_cons.mp hp with rfl | hp
        · exact Nat.lt_succ_self _
        · exact Nat.lt_succ_of_lt (hl p hp)
      · rcases List.mem_cons.mp a with e | a <;> rcases List.mem_cons.mp b with e' | b
        · cases e; cases e'; rfl
        · cases e; exact absurd (hl _ b) (Nat.lt_irrefl _)
        · cases e'; exact absurd (hl _ a) (Nat.lt_irrefl _)
        · exact hi _ _ _ a b
    · rename_i hk
      rw [if_neg hk] at h2
      exact cells_inj hl hi h1 h2
theorem newEnv_comp {M : Model} {A : Around} {E : Value → Shared → Prop} {s : Shared} {scope : Scope} {globals : Addr} {closure : List (Str × Addr)} {qual : Str} {func : Option Addr} {code : Value} {around : Env} {builtins : Addr} {Q : Env → Shared → Prop}
    (h : Q (newEnv scope s.heap.objs.size globals (cellsFrom (s.heap.objs.size + 1) scope.names closure) qual func code (some around) builtins)
      { s with heap := pushCells (s.heap.push { cls := .type "dict", data := .dict #[] }) scope.names }) :
    wpAny M A (newFunctionEnv scope globals closure [] qual func code (some around) builtins) Q E s := by
  simp only [newFunctionEnv, Option.isSome_some, if_true]
  refine wpAny_bind (wpAny_alloc ?_)
  refine wpAny_bind (wpAny_layCells _ (fun n k c => rfl) scope.names closure _ _ ?_)
  rw [show ({ s with heap := s.heap.push { cls := .type "dict", data := .dict #[] } } : Shared).heap.objs.size = s.heap.objs.size + 1 from Heap.size_push ..]
  rw [List.forIn_nil]
  exact wpAny_bind (wpAny_pure (wpAny_pure h))
theorem lookup_relS {sc : Scope} : ∀ {names : List (Str × NameKind)} {x : Str} {k : NameKind},
    (names.map fun (n, k) => if (k == NameKind.free && sc.kind == .function && sc.names.lookup n == some .cell) then (n, NameKind.cell) else (n, k)).lookup x = some k →
    ∃ k', names.lookup x = some k' ∧ (k = k' ∨ (k' = .free ∧ k = .cell))
  | [], _, _, h => by simp at h
  | (n, k₀) :: r, x, k, h => by
    have ih := @lookup_relS sc r x k
    have h' : List.lookup x ((if (k₀ == NameKind.free && sc.kind == .function && sc.names.lookup n == some .cell) = true then (n, NameKind.cell) else (n, k₀)) :: (r.map _)) = some k := h
    cases hx : x == n with
    | true =>
      simp only [List.lookup_cons, hx]
      by_cases hc : (k₀ == NameKind.free && sc.kind == .function && sc.names.lookup n == some .cell) = true
      · rw [if_pos hc] at h'
        simp only [List.lookup_cons, hx] at h'
        cases h'
        simp only [Bool.and_eq_true, beq_iff_eq] at hc
        exact ⟨k₀, rfl, .inr ⟨hc.1.1, rfl⟩⟩
      · rw [if_neg hc] at h'
        simp only [List.lookup_cons, hx] at h'
        cases h'
        exact ⟨_, rfl, .inl rfl⟩
    | false =>
      simp only [List.lookup_cons, hx]
      by_cases hc : (k₀ == NameKind.free && sc.kind == .function && sc.names.lookup n == some .cell) = true
      · rw [if_pos hc] at h'
        simp only [List.lookup_cons, hx] at h'
        exact ih h'
      · rw [if_neg hc] at h'
        simp only [List.lookup_cons, hx] at h'
        exact ih h'
structure BlkOk (N : List Str) (sc scope : Scope) (own : List (Str × Nat)) : Prop where
  kind : scope.kind = .function
  uniq : ∀ y ∈ scope.names, scope.names.lookup y.1 = some y.2
  ix : ∀ p ∈ own, N[p.2]? = some p.1
  free : ∀ y ∈ scope.names, y.2 = .free → sc.names.lookup y.1 = some .cell ∨ sc.names.lookup y.1 = some .free
  own : ∀ y ∈ scope.names, y.2 = .local ∨ y.2 = .cell → y.1 ∈ own.map (·.1) ∨ y.1 ∉ N
def wipe (σ : St) : List Nat → St
  | [] => σ
  | v :: vs => (wipe σ vs).set v none
theorem wipe_length (σ : St) : ∀ vs : List Nat, (wipe σ vs).length = σ.length
  | [] => rfl
  | v :: vs => by unfold wipe; rw [List.length_set, wipe_length σ vs]
theorem wipe_some {σ : St} {i : Nat} {x : V} : ∀ {vs : List Nat}, (wipe σ vs)[i]? = some (some x) → σ[i]? = some (some x) ∧ i ∉ vs
  | [], h => ⟨h, by simp⟩
  | v :: vs, h => by
    unfold wipe at h
    by_cases hi : v = i
    · subst hi
      by_cases hv : v < (wipe σ vs).length
      · rw [List.getElem?_set_self hv] at h; cases h
      · rw [List.getElem?_eq_none (by simpa using hv)] at h; cases h
    · rw [List.getElem?_set_ne hi] at h
      obtain ⟨h1, h2⟩ := wipe_some h
      exact ⟨h1, by simp only [List.mem_cons, not_or]; exact ⟨fun e => hi e.symm, h2⟩⟩
abbrev Cx.blk (X : Cx) (s : Shared) (H : Hp) (scope : Scope) (cenv : Env) (fp : List Addr) : Cx := { X with s_0 := s, H_0 := H, env := cenv, outer := X.stack, ex := fp, fn := fun x => scope.names.lookup x == some .cell, pn := [], xe := fun _ _ => False }
section
variable {X : Cx} {pins : List (Addr × Obj)} {σ : St} {H : Hp} {s : Shared}
theorem block_start {scope : Scope} {own : List (Str × Nat)} {fp : List Addr} (I : Inv X pins σ H s) (ok : BlkOk X.N X.env.scope scope own) (hN : X.N.Nodup) (hfp : ∀ b ∈ fp, FpOk X pins H b ∧ b < s.heap.objs.size) :
    Inv (X.blk s H scope (compEnvC scope (cellsFrom (s.heap.objs.size + 1) scope.names (cloFrom X.env.cells scope.names [])) s.heap.objs.size X.env) fp) [] (wipe σ (own.map (·.2))) H { s with heap := pushCells (s.heap.push { cls := .type "dict", data := .dict #[] }) scope.names } := by
  have hfree : ∀ y ∈ scope.names, y.2 = .free → ∃ c, X.env.cells.lookup y.1 = some c := fun y hy e => by
    rcases ok.free y hy e with k | k
    · exact I.ok.has _ (.inl k)
    · exact I.ok.has _ (.inr k)
  generalize hcenv : compEnvC scope (cellsFrom (s.heap.objs.size + 1) scope.names (cloFrom X.env.cells scope.names [])) s.heap.objs.size X.env = cenv
  have kp : ∀ b o, s.heap.get? b = some o → (pushCells (s.heap.push { cls := .type "dict", data := .dict #[] }) scope.names).get? b = some o := fun b o e => pushCells_keeps _ _ _ _ (Heap.get?_push_of_some _ e)
  have hL : cenv.locals = s.heap.objs.size := by rw [← hcenv]; rfl
  have hcl : cenv.cells = cellsFrom (s.heap.objs.size + 1) scope.names (cloFrom X.env.cells scope.names []) := by rw [← hcenv]; rfl
  have hsc : cenv.scope = relS scope X.env.scope := by rw [← hcenv]; rfl
  rw [← Heap.size_push s.heap { cls := .type "dict", data := .dict #[] }] at hcl
  have cm : ∀ {y c}, (y, c) ∈ cloFrom X.env.cells scope.names [] → X.env.cells.lookup y = some c ∧ c < s.heap.objs.size := fun {y c} hm => by
    rcases cloFrom_mem hm with hm | ⟨h1, rfl⟩
    · cases hm
    · obtain ⟨c, hc⟩ := hfree _ h1 rfl
      rw [hc]
      obtain ⟨w, z⟩ := I.cell _ _ hc
      exact ⟨rfl, z.lt⟩
  have mem : ∀ {y c}, cenv.cells.lookup y = some c → (X.env.cells.lookup y = some c ∧ c < s.heap.objs.size) ∨ (s.heap.objs.size + 1 ≤ c ∧ CellAt (pushCells (s.heap.push { cls := .type "dict", data := .dict #[] }) scope.names) c none) := fun {y c} e => by
    rw [hcl] at e
    rcases cells_mem (PySem.mem_of_lookup e) with hm | ⟨_, h2, h3⟩
    · exact .inl (cm hm)
    · rw [Heap.size_push] at h2; exact .inr ⟨h2, h3⟩
  have look : ∀ {y}, scope.names.lookup y = some .free → ∃ c, cenv.cells.lookup y = some c ∧ X.env.cells.lookup y = some c := fun {y} hl => by
    have hy : (y, NameKind.free) ∈ scope.names := PySem.mem_of_lookup hl
    obtain ⟨c', e'⟩ := mem_lookup (cells_acc (names := scope.names) (n := (s.heap.push { cls := .type "dict", data := .dict #[] }).objs.size) (cloFrom_has (cells := X.env.cells) (acc := []) hy))
    rw [← hcl] at e'
    refine ⟨c', e', ?_⟩
    rw [hcl] at e'
    rcases cells_mem (PySem.mem_of_lookup e') with hm | ⟨h1, _, _⟩
    · exact (cm hm).1
    · have := ok.uniq _ h1
      rw [hl] at this; cases this
  have okB : (X.blk s H scope cenv fp).Ok := by
    refine ⟨I.ok.mod, by show cenv.scope.kind = _; rw [hsc]; exact ok.kind, by show cenv.globals = _; rw [← hcenv]; exact I.ok.glob, by show cenv.builtins = _; rw [← hcenv]; exact I.ok.blt, by show s.heap.objs.size ≤ cenv.locals; rw [hL]; exact Nat.le_refl _,
      fun y z c e1 e2 => ?_, fun y hy => ?_, fun y c z e => ?_, I.ok.hd, I.ok.frames, .inl rfl, fun b hb => ⟨?_, fun y c e z => ?_⟩, I.bs, Nat.le_trans I.ok.bsz I.sz, fun b o e hb => ?_, fun b hb z => ?_, I.stack, I.stkFree⟩
    · have e1 : cenv.cells.lookup y = some c := e1
      have e2 : cenv.cells.lookup z = some c := e2
      rw [hcl] at e1 e2
      refine cells_inj (fun p hp => ?_) (fun y z c a b => I.ok.inj y z c (cm a).1 (cm b).1) (PySem.mem_of_lookup e1) (PySem.mem_of_lookup e2)
      rw [Heap.size_push]
      exact Nat.lt_succ_of_lt (cm (y := p.1) (c := p.2) hp).2
    · show ∃ c, cenv.cells.lookup y = some c
      have key : ∀ k, cenv.kindOf y = some k → (k = .cell ∨ k = .free) → ∃ c, cenv.cells.lookup y = some c := fun k hk hk' => by
        unfold Env.kindOf at hk
        rw [hsc] at hk
        obtain ⟨k', e, r⟩ := lookup_relS hk
        have : k' = .cell ∨ k' = .free := by
          rcases r with rfl | ⟨rfl, _⟩
          · exact hk'
          · exact .inr rfl
        rcases this with rfl | rfl
        · obtain ⟨c, hm⟩ := cells_has (n := (s.heap.push { cls := .type "dict", data := .dict #[] }).objs.size) (acc := cloFrom X.env.cells scope.names []) (PySem.mem_of_lookup e)
          obtain ⟨c', e'⟩ := mem_lookup hm
          exact ⟨c', by rw [hcl]; exact e'⟩
        · obtain ⟨c, h1, _⟩ := look e
          exact ⟨c, h1⟩
      rcases hy with hy | hy
      · exact key _ hy (.inl rfl)
      · exact key _ hy (.inr rfl)
    · have z : (scope.names.lookup y == some NameKind.cell) = true := z
      have z : scope.names.lookup y = some .cell := by simpa using z
      have e : cenv.cells.lookup y = some c := e
      rw [hcl] at e
      rcases cells_mem (PySem.mem_of_lookup e) with hm | ⟨_, h2, _⟩
      · rcases cloFrom_mem hm with hm | ⟨h1, _⟩
        · cases hm
        · have q := ok.uniq _ h1
          rw [z] at q; cases q
      · rw [Heap.size_push] at h2
        exact Nat.le_of_succ_le h2
    · show b ≠ cenv.locals
      rw [hL]; exact Nat.ne_of_lt (hfp b hb).2
    · have e : cenv.cells.lookup y = some c := e
      rcases mem e with ⟨h1, _⟩ | ⟨h1, _⟩
      · exact (hfp b hb).1.2.2.2.2.1 y c h1 z
      · have h2 : s.heap.objs.size + 1 ≤ b := by rw [← z]; exact h1
        exact absurd (Nat.lt_of_lt_of_le (hfp b hb).2 (Nat.le_of_succ_le h2)) (Nat.lt_irrefl _)
    · rcases (hfp b hb).1.2.2.2.1 with z | z
      · exact I.ok.noex b o e z
      · exact absurd (Nat.lt_of_lt_of_le (Heap.lt_size e) (Nat.le_trans I.ok.bsz z)) (Nat.lt_irrefl _)
    · rcases List.mem_cons.mp (I.stkSub b z) with z | z
      · exact (hfp b hb).1.2.1 z
      · exact (hfp b hb).1.2.2.1 z
  refine ⟨okB, rfl, I.bare, Un.kept kp, ⟨fun _ => none, ?_, fun i y av e1 e2 e3 => ?_⟩, fun y c e => ?_, ?_, fun y c e => ?_, fun p hp => ?_, I.hok.kept kp, by rw [wipe_length]; exact I.len⟩
  · show Heap.Ns _ cenv.locals _
    rw [hL]
    exact Heap.Ns.keeps (Heap.Ns.new ..) fun b o e => pushCells_keeps _ _ _ _ e
  · obtain ⟨e2, hne⟩ := wipe_some e2
    have hfr : scope.names.lookup y = some .free ∧ (cenv.kindOf y = some .cell ∨ cenv.kindOf y = some .free) := by
      have key : ∀ k, cenv.scope.names.lookup y = some k → k = .local ∨ k = .cell ∨ k = .free → scope.names.lookup y = some .free ∧ (cenv.kindOf y = some .cell ∨ cenv.kindOf y = some .free) := fun k hk hk' => by
        have hk0 := hk
        rw [hsc] at hk
        obtain ⟨k', e, r⟩ := lookup_relS hk
        have no : ¬ (k' = .local ∨ k' = .cell) := fun hh => by
          rcases ok.own _ (PySem.mem_of_lookup e) hh with e' | e'
          · obtain ⟨p, hp, hpy⟩ := List.mem_map.mp e'
            have e3 := ok.ix p hp
            have : p.1 = y := hpy
            rw [this] at e3
            exact hne (List.mem_map.mpr ⟨p, hp, nodup_ix hN e3 e1⟩)
          · exact e' (List.mem_of_getElem? e1)
        rcases r with rfl | ⟨rfl, rfl⟩
        · rcases hk' with rfl | rfl | rfl
          · exact absurd (.inl rfl) no
          · exact absurd (.inr rfl) no
          · exact ⟨e, .inr hk0⟩
        · exact ⟨e, .inl hk0⟩
      have e3 : Vis cenv.scope y := e3
      rcases e3 with e3 | e3 | e3
      · exact key _ e3 (.inl rfl)
      · exact key _ e3 (.inr (.inl rfl))
      · exact key _ e3 (.inr (.inr rfl))
    obtain ⟨m, hn, hl⟩ := I.loc
    have hvis : Vis X.env.scope y := (ok.free _ (PySem.mem_of_lookup hfr.1) rfl).elim (fun k => .inr (.inl k)) (fun k => .inr (.inr k))
    obtain ⟨w, r, q⟩ := hl i y av e1 e2 hvis
    refine ⟨w, r, .inr ⟨hfr.2, ?_⟩⟩
    obtain ⟨c, h1, h2⟩ := look hfr.1
    rcases q with ⟨k, _⟩ | ⟨_, c', e', z⟩
    · have k : X.env.scope.names.lookup y = some .local := k
      rcases ok.free _ (PySem.mem_of_lookup hfr.1) rfl with k' | k' <;> rw [show X.env.scope.names.lookup y = _ from k'] at k <;> cases k
    · rw [h2] at e'; cases e'
      exact ⟨c, h1, z.keeps kp⟩
  · have e : cenv.cells.lookup y = some c := e
    rcases mem e with ⟨h1, _⟩ | ⟨_, z⟩
    · obtain ⟨w, z⟩ := I.cell y c h1
      exact ⟨w, z.keeps kp⟩
    · exact ⟨_, z⟩
  · show H cenv.locals = none
    rw [hL]; exact I.hok.fresh (Nat.le_refl _)
  · have e : cenv.cells.lookup y = some c := e
    rcases mem e with ⟨h1, _⟩ | ⟨h1, _⟩
    · exact I.freeC y c h1
    · exact I.hok.fresh (Nat.le_of_succ_le h1)
  · exact absurd (show p ∈ ([] : List (Addr × Obj)) ++ [] from hp) (by simp)
theorem app_ok {E : Value → Shared → Prop} {D : Addr} {xs : List V} {y : V} {v : Value} {Q : Value → Shared → Prop} (I : Inv X pins σ H s) (hD : H D = some (.lst xs)) (hz : xs.length < sizeLine) (r : RelV y v)
    (h : ∀ s', Inv X pins σ (upd H D (.lst (xs ++ [y]))) s' → Q .none s') : wpAny (model X.prog X.w) X.A (call (.builtin "list.append") [.ref D, v]) Q E s := by
  obtain ⟨hz', its, n, ri, e⟩ := I.hok D _ hD
  have hl := ri.length
  refine append_at (hsz := by rw [List.size_toArray]; omega) e fun h' sb ho' => ?_
  refine h { s with heap := h' } (I.write (t' := s.toks) (by rw [hD]; trivial) (.inl rfl) (fun b u hb q => (sb.2 b hb).trans q) ⟨_, ho'⟩ ⟨by rw [List.length_append]; exact hz, its ++ [v], n + 1, ri.append (.cons r .nil), ?_⟩)
  rw [ho']
  simp
def PTs (X : Cx) (ifs : List Expr) (t : TT) : Prop :=
  ∀ (pins : List (Addr × Obj)) (s : Shared) (σ : St) (H : Hp) (Q : Bool → Hp → Prop), Inv X pins σ H s → t σ H Q →
    wpAny (model X.prog X.w) X.A (forIn ifs true fun c r => if r = true then do let ok ← isTrue c X.env (eval c X.env); pure (ForInStep.yield ok) else pure (ForInStep.yield r)) (TP X pins σ Q) X.xe s
def tYes : TT := fun _ H Q => Q true H
theorem pts_nil : PTs X [] tYes := fun _ _ _ H _ I h => wpAny_tests_nil ⟨H, I, h⟩
theorem pts_one {c : Expr} {t : TT} (h : PT X c t) : PTs X [c] t := fun pins s σ H Q I hw => wpAny_tests_one (h pins s σ H Q I hw)
end
theorem thnF {α : Type} {t : Sem α} {Q Q' : α → Shared → Prop} {M : Model} {A : Around} {E : Value → Shared → Prop} {s : Shared} (h : wpAny M A t Q (fun _ _ => False) s) (hQ : ∀ a s, Q a s → Q' a s) : wpAny M A t Q' E s := wpAny_mono h hQ fun _ _ z => False.elim z
theorem compLoop_any {prog : Program} {w : World} {A : Around} {R : Result → Shared → Prop} {s : Shared} {elt target iter : Expr} {ifs : List Expr} {scope : Scope} {pos : Pos} {it acc : Value} {env : Env} (I : Nat → Shared → Prop)
    (turn : ∀ n s, I n s → wpAny (model prog w) A (pyNext it) (fun r s₁ => match r with
      | none => R (.ok .next) s₁
      | some v => wpAny (model prog w) A (letOwnedTupleGo target it v) (fun _ s₁' => wpAny (model prog w) A (assign target env v) (fun _ s₂ =>
          wpAny (model prog w) A (forIn ifs true fun c r => if r = true then do let ok ← isTrue c env (eval c env); pure (ForInStep.yield ok) else pure (ForInStep.yield r)) (fun ok s₃ =>
            if ok = true then wpAny (model prog w) A (eval elt env) (fun x s₄ =>
              wpAny (model prog w) A (call (.builtin "list.append") [acc, x]) (fun _ s₅ => ∃ m, m < n ∧ I m s₅) (notedBy (model prog w) A env fun e s' => R (.error e) s') s₄) (notedBy (model prog w) A env fun e s' => R (.error e) s') s₃
            else ∃ m, m < n ∧ I m s₃) (notedBy (model prog w) A env fun e s' => R (.error e) s') s₂) (notedBy (model prog w) A env fun e s' => R (.error e) s') s₁') (notedBy (model prog w) A env fun e s' => R (.error e) s') s₁) (notedBy (model prog w) A env fun e s' => R (.error e) s') s)
    (n : Nat) (h : I n s) :
    codeAny (model prog w) A (.compLoop (.ListComp elt [⟨target, iter, ifs, 0⟩] scope pos) 0 it acc env) R s := by
  refine codeAny_loop rfl I (fun n s hI => ?_) n h
  show wpAny _ A ((compTurn (.ListComp elt [⟨target, iter, ifs, 0⟩] scope pos) 0 it acc env).onRaise (fun x => do noteFrame x env; theTreesLotGoes x)) _ _ s
  refine wpAny_noted ?_
  rw [compTurn_list]
  refine wpAny_bind (wpAny_standAt (wpAny_bind (wpAny_mono (turn n s hI) (fun r s₁ h₁ => ?_) fun _ _ h' => h')))
  cases r with
  | none => exact wpAny_pure h₁
  | some v =>
    refine wpAny_bind (wpAny_mono h₁ (fun _ s₁' h₁' => ?_) fun _ _ h' => h')
    refine wpAny_bind (wpAny_mono h₁' (fun _ s₂ h₂ => wpAny_bind (wpAny_mono h₂ (fun ok s₃ h₃ => ?_) fun _ _ h' => h')) fun _ _ h' => h')
    cases ok with
    | false => exact wpAny_pure ⟨rfl, h₃⟩
    | true =>
      exact wpAny_bind (wpAny_bind (wpAny_mono h₃ (fun x s₄ h₄ => wpAny_bind (wpAny_mono h₄ (fun _ s₅ h₅ => wpAny_pure (wpAny_pure ⟨rfl, h₅⟩)) fun _ _ h' => h')) fun _ _ h' => h'))
section
variable {X : Cx}
def tLc (wi : TI) (g : TG) (tt : TT) (te : TE) (vs : List Nat) : TE := fun σ H Q => wi σ H fun J H1 => ∀ D, H1 D = none → ∃ W : Nat → Nat → Hp → Prop, (∃ m, W 0 m (upd H1 D (.lst []))) ∧ ∀ i m H, W i m H →
  (J.stop i H ∧ Q (.ref D) H) ∨ (J.go i H ∧ ∃ Nx : Hp → Prop, (∀ H', Nx H' → ∃ m', m' < m ∧ W (i + 1) m' H') ∧ ∀ x H', J.yld i H x H' → g x (wipe σ vs) H' fun σ2 H2 => wipe σ2 vs = wipe σ vs ∧ tt σ2 H2 fun b H3 =>
    if b = true then te σ2 H3 fun y H4 => ∃ acc, H4 D = some (.lst acc) ∧ acc.length < sizeLine ∧ Nx (upd H4 D (.lst (acc ++ [y]))) else Nx H3)
theorem lc_core {pins : List (Addr × Obj)} {s : Shared} {σ : St} {H : Hp} {Q : VK} {elt tg iter : Expr} {ifs : List Expr} {scope : Scope} {own : List (Str × Nat)} {pos pos' : Pos} {wi : TI} {g : TG} {tt : TT} {te : TE} {use : Option (Value → Sem Unit)} {Qf : Value → Shared → Prop}
    (hc : X.calm = true) (hN : X.N.Nodup) (I : Inv X pins σ H s) (hi : PI X tg iter wi) (ok : BlkOk X.N X.env.scope scope own)
    (hg : ∀ (s : Shared) (H : Hp) (C : Addr) (cl : List (Str × Addr)) (fp : List Addr), PG (X.blk s H scope (compEnvC scope cl C X.env) fp) tg g) (ht : ∀ (s : Shared) (H : Hp) (C : Addr) (cl : List (Str × Addr)) (fp : List Addr), PTs (X.blk s H scope (compEnvC scope cl C X.env) fp) ifs tt)
    (he : ∀ (s : Shared) (H : Hp) (C : Addr) (cl : List (Str × Addr)) (fp : List Addr), PE (X.blk s H scope (compEnvC scope cl C X.env) fp) elt te) (hs : ∀ x, foldedSetIterable iter X.env x = pure x)
    (h : tLc wi g tt te (own.map (·.2)) σ H Q)
    (hRR : ∀ D C s' m H', Inv X pins σ H' s' → Q (.ref D) H' → s'.heap.Ns C m → FpOk X pins H' C → compPost (model X.prog X.w) X.A X.xe use Qf (.ref D) C (.ok .next) s') :
    wpAny (model X.prog X.w) X.A (comprehension (.ListComp elt [⟨tg, iter, ifs, 0⟩] scope pos) scope X.env pos' (newList []) false (eval iter X.env) use) Qf X.xe s := by
  have hfree : ∀ y ∈ scope.names, y.2 = .free → ∃ c, X.env.cells.lookup y.1 = some c := fun y hy e => by
    rcases ok.free y hy e with k | k
    · exact I.ok.has _ (.inl k)
    · exact I.ok.has _ (.inr k)
  refine wpAny_comprehension_free (use := use) rfl hs (closure_ok hfree) ok.kind (fun y hy e => by rw [ok.uniq y hy, e])
    (thn (hi pins s σ H _ I h) fun xv s1 hx => thn hx fun itv s2 h2 => ?_)
  obtain ⟨it, fp, tn, J, H2, e, I2, T, st2, f2, q⟩ := h2
  subst e
  refine wpAny_newObj_type (newEnv_comp ?_) (by show 0 ≤ sizeLine; decide)
  generalize hD : s2.heap.objs.size = D
  have hDn : H2 D = none := I2.hok.fresh (Nat.le_of_eq hD)
  obtain ⟨W, ⟨m0, w0⟩, turn⟩ := q D hDn
  -- the new list
  generalize hs3 : ({ s2 with heap := s2.heap.push { cls := .type "list", data := .seq ([] : List Value).toArray } } : Shared) = s3
  have I3 : Inv X pins σ (upd H2 D (.lst [])) s3 := by
    rw [← hs3]
    refine I2.laid (t' := s2.toks) (fun b o e => Heap.get?_push_of_some _ e) (Nat.le_of_eq hD) ⟨Nat.zero_le _, [], 0, .nil, ?_⟩
    rw [← hD]
    exact Heap.get?_push_size _ rfl
  have h3 : s3.heap = s2.heap.push { cls := .type "list", data := .seq ([] : List Value).toArray } := by rw [← hs3]
  have sz : ∀ b ∈ fp, b < s2.heap.objs.size := fun b hb => by
    obtain ⟨o, e, _⟩ := T.obj _ _ st2 b hb
    exact Heap.lt_size e
  have f3 : ∀ b ∈ fp, FpOk X pins (upd H2 D (.lst [])) b ∧ b < s3.heap.objs.size := fun b hb => by
    have hlt := sz b hb
    refine ⟨⟨?_, (f2 b hb).2⟩, by rw [h3, Heap.size_push]; exact Nat.lt_succ_of_lt hlt⟩
    rw [upd_ne (by rw [← hD]; exact Nat.ne_of_lt hlt)]
    exact (f2 b hb).1
  have st3 : tn 0 s3.heap := T.keep _ _ _ st2 fun b _ o e => by rw [h3]; exact Heap.get?_push_of_some _ e
  have I4 := block_start I3 ok hN f3
  have pg := hg s3 (upd H2 D (.lst [])) s3.heap.objs.size (cellsFrom (s3.heap.objs.size + 1) scope.names (cloFrom X.env.cells scope.names [])) fp
  have pt := ht s3 (upd H2 D (.lst [])) s3.heap.objs.size (cellsFrom (s3.heap.objs.size + 1) scope.names (cloFrom X.env.cells scope.names [])) fp
  have pe := he s3 (upd H2 D (.lst [])) s3.heap.objs.size (cellsFrom (s3.heap.objs.size + 1) scope.names (cloFrom X.env.cells scope.names [])) fp
  show codeAny _ _ (.compStart (.ListComp elt [⟨tg, iter, ifs, 0⟩] scope pos) 0 (.ref it) (.ref D) (compEnvC scope (cellsFrom (s3.heap.objs.size + 1) scope.names (cloFrom X.env.cells scope.names [])) s3.heap.objs.size X.env)) (compPost (model X.prog X.w) X.A X.xe use Qf (.ref D) s3.heap.objs.size) { s3 with heap := pushCells (s3.heap.push { cls := .type "dict", data := .dict #[] }) scope.names }
  have nfp : ∀ b ∈ fp, (upd H2 D (.lst [])) b = none := fun b hb => (f3 b hb).1.1
  generalize hce : compEnvC scope (cellsFrom (s3.heap.objs.size + 1) scope.names (cloFrom X.env.cells scope.names [])) s3.heap.objs.size X.env = ce at I4 pg pt pe ⊢
  have cL : ce.locals = s3.heap.objs.size := by subst hce; rfl
  generalize hH3 : upd H2 D (.lst []) = H3 at I3 I4 pg pt pe w0 nfp f3
  generalize hs4 : ({ s3 with heap := pushCells (s3.heap.push { cls := .type "dict", data := .dict #[] }) scope.names } : Shared) = s4 at I4 ⊢
  have st4 : tn 0 s4.heap := T.keep _ _ _ st3 fun b _ o e => by rw [← hs4]; exact pushCells_keeps _ _ _ _ (Heap.get?_push_of_some _ e)
  have stat : ∀ {σ' : St} {H' : Hp} {s' : Shared}, Inv (X.blk s3 H3 scope ce fp) [] σ' H' s' → (∀ b ∈ fp, H' b = none) → ∀ b ∈ fp, FpOk (X.blk s3 H3 scope ce fp) [] H' b := fun {σ' H' s'} I' hn b hb =>
    ⟨hn b hb, (I'.ok.exf b hb).1, I'.ok.exfs b hb, .inl hb, fun x c e => (I'.ok.exf b hb).2 x c e, fun p hp => absurd (show p ∈ ([] : List (Addr × Obj)) ++ [] from hp) (by simp)⟩
  have loop : codeAny (model X.prog X.w) X.A (.compLoop (.ListComp elt [⟨tg, iter, ifs, 0⟩] scope pos) 0 (.ref it) (.ref D) ce) (compPost (model X.prog X.w) X.A X.xe use Qf (.ref D) s3.heap.objs.size) s4 := by
    refine compLoop_any (fun n s' => ∃ i H', Inv (X.blk s3 H3 scope ce fp) [] (wipe σ (own.map (·.2))) H' s' ∧ tn i s'.heap ∧ (∀ b ∈ fp, H' b = none) ∧ W i n H') ?_ m0 ⟨0, H3, I4, st4, nfp, w0⟩
    rintro n s5 ⟨i, H5, I5, st5, n5, w5⟩
    rcases turn i n H5 w5 with ⟨stop, qq⟩ | ⟨go, Nx, hNx, step⟩
    · have td := T.done (X.blk s3 H3 scope ce fp) rfl rfl rfl hc i [] s5 _ H5 (fun _ _ => False) I5 (stat I5 n5) st5 stop
      refine thnF td fun r s6 ⟨hr, I6⟩ => ?_
      subst hr
      -- back in the def's context
      have I7 : Inv X pins σ H5 s6 := I3.call' (ch := fp) I6.os I6.base I6.hok I6.bare fun b hb => ⟨(f3 b hb).1.2.2.2.1, (f3 b hb).1.2.1, (f3 b hb).1.2.2.2.2.1, (f3 b hb).1.2.2.2.2.2⟩
      have nC : H5 s3.heap.objs.size = none := by
        have z : H5 ce.locals = none := I6.free
        rw [cL] at z
        exact z
      obtain ⟨m, hn, _⟩ := I6.loc
      have hn : s6.heap.Ns ce.locals m := hn
      rw [cL] at hn
      exact hRR D s3.heap.objs.size s6 m H5 I7 qq hn (I3.fpOk (Nat.le_refl _) nC)
    · have ti := T.item (X.blk s3 H3 scope ce fp) rfl rfl rfl hc i [] s5 _ H5 (fun _ _ => False) I5 (stat I5 n5) st5 go
      refine thnF ti fun r s6 ⟨u, hr, h6⟩ => ?_
      subst hr
      refine thnF h6 fun _ s7 ⟨x, H7, I7, r7, y7, st7, n7⟩ => ?_
      have I7' := I7.pinned (stat I7 n7) (T.obj _ _ st7)
      refine thnF (pg _ s7 _ H7 x u _ I7' r7 (step x H7 y7)) fun _ s8 ⟨σ8, H8, I8, hw8, q8⟩ => ?_
      refine thnF (pt _ s8 σ8 H8 _ I8 q8) fun b s9 ⟨H9, I9, q9⟩ => ?_
      -- the turn's end
      have fin : ∀ {s' : Shared} {H' : Hp}, Inv (X.blk s3 H3 scope ce fp) ([] ++ pinsAt fp s7.heap) σ8 H' s' → Nx H' → ∃ m, m < n ∧ ∃ i H', Inv (X.blk s3 H3 scope ce fp) [] (wipe σ (own.map (·.2))) H' s' ∧ tn i s'.heap ∧ (∀ b ∈ fp, H' b = none) ∧ W i m H' := fun {s' H'} I' nx => by
        obtain ⟨m', hm, w'⟩ := hNx H' nx
        have pin' : ∀ b ∈ fp, ∀ o, s7.heap.get? b = some o → s'.heap.get? b = some o ∧ H' b = none := fun b hb o e =>
          let z := I'.pin (b, o) (List.mem_append_right _ (List.mem_append_right _ (mem_pinsAt hb e)))
          ⟨z.1, z.2.1⟩
        have hl : (wipe σ (own.map (·.2))).length = σ8.length := by rw [← hw8, wipe_length]
        refine ⟨m', hm, i + 1, H', (I'.unpinned (pins := [])).weak hl (fun j v e => ?_), T.keep _ _ _ st7 fun b hb o e => (pin' b hb o e).1, fun b hb => ?_, w'⟩
        · rw [← hw8] at e
          exact (wipe_some e).1
        · obtain ⟨o, e, _⟩ := T.obj _ _ st7 b hb
          exact (pin' b hb o e).2
      cases b with
      | false =>
        simp only [Bool.false_eq_true, if_false] at q9 ⊢
        exact fin I9 q9
      | true =>
        simp only [if_true] at q9 ⊢
        refine thnF (pe _ s9 σ8 H9 _ I9 q9) fun z s10 ⟨yv, H10, I10, r10, acc, hD10, hz10, nx⟩ => ?_
        exact app_ok (X := X.blk s3 H3 scope ce fp) I10 hD10 hz10 r10 fun s11 I11 => fin I11 nx
  exact codeAny_compStart_list loop (T.self X.A 0 _ _ _ st4 loop)
theorem pe_lc {elt tg iter : Expr} {ifs : List Expr} {scope : Scope} {own : List (Str × Nat)} {pos : Pos} {wi : TI} {g : TG} {tt : TT} {te : TE} (hc : X.calm = true) (hN : X.N.Nodup) (hi : PI X tg iter wi) (ok : BlkOk X.N X.env.scope scope own)
    (hg : ∀ (s : Shared) (H : Hp) (C : Addr) (cl : List (Str × Addr)) (fp : List Addr), PG (X.blk s H scope (compEnvC scope cl C X.env) fp) tg g) (ht : ∀ (s : Shared) (H : Hp) (C : Addr) (cl : List (Str × Addr)) (fp : List Addr), PTs (X.blk s H scope (compEnvC scope cl C X.env) fp) ifs tt)
    (he : ∀ (s : Shared) (H : Hp) (C : Addr) (cl : List (Str × Addr)) (fp : List Addr), PE (X.blk s H scope (compEnvC scope cl C X.env) fp) elt te) (hs : ∀ x, foldedSetIterable iter X.env x = pure x := by intro _; rfl) :
    PE X (.ListComp elt [⟨tg, iter, ifs, 0⟩] scope pos) (tLc wi g tt te (own.map (·.2))) := by
  intro pins s σ H Q I h
  rw [eval_ListComp]
  refine lc_core hc hN I hi ok hg ht he hs h fun D C s' m H' I' q hn f => ⟨m, hn, fun h'' sb => ?_⟩
  obtain ⟨f0, f1, f2, f3, f4, f5⟩ := f
  exact ⟨.ref D, H', I'.turned (t' := s'.toks) (fun b o hb e => (sb.2 b hb).trans e) f0 f1 f3 f4 f5, rfl, q⟩
theorem ps_setLc {i : Nat} {y : Str} {py : Pos} {elt tg iter : Expr} {ifs : List Expr} {scope : Scope} {own : List (Str × Nat)} {pos spos : Pos} {wi : TI} {g : TG} {tt : TT} {te : TE} (hc : X.calm = true) (hN : X.N.Nodup) (hy : X.N[i]? = some y) (hyl : X.env.scope.names.lookup y = some .local)
    (hsw : swapsWith (.ListComp elt [⟨tg, iter, ifs, 0⟩] scope pos) (some (.Name y py)) spos.line X.env = pure true) (hi : PI X tg iter wi) (ok : BlkOk X.N X.env.scope scope own)
    (hg : ∀ (s : Shared) (H : Hp) (C : Addr) (cl : List (Str × Addr)) (fp : List Addr), PG (X.blk s H scope (compEnvC scope cl C X.env) fp) tg g) (ht : ∀ (s : Shared) (H : Hp) (C : Addr) (cl : List (Str × Addr)) (fp : List Addr), PTs (X.blk s H scope (compEnvC scope cl C X.env) fp) ifs tt)
    (he : ∀ (s : Shared) (H : Hp) (C : Addr) (cl : List (Str × Addr)) (fp : List Addr), PE (X.blk s H scope (compEnvC scope cl C X.env) fp) elt te) (hs : ∀ x, foldedSetIterable iter X.env x = pure x := by intro _; rfl) :
    PS X (.Assign [.Name y py] (.ListComp elt [⟨tg, iter, ifs, 0⟩] scope pos) spos) (tAsg (tLc wi g tt te (own.map (·.2))) (gName i)) := by
  intro pins s σ H D I h
  rw [exec_Assign_Name_used _ _ _ _ hsw]
  refine wpAny_bind (wpAny_standAt (wpAny_bind ?_))
  show wpAny _ X.A (do let _ ← comprehension (.ListComp elt [⟨tg, iter, ifs, 0⟩] scope pos) scope X.env (firstIterPos [⟨tg, iter, ifs, 0⟩] pos) (newList []) false (eval iter X.env) (some (assign (.Name y py) X.env))) _ _ s
  have h : tLc wi g tt te (own.map (·.2)) σ H (fun x H1 => gName i x σ H1 D.nx) := h
  refine wpAny_bind (thn (lc_core (Qf := fun _ s' => SP X pins D .next s') hc hN I hi ok hg ht he hs h fun L C s' m H' I' q hn f => ?_) fun _ s' hq => wpAny_pure (wpAny_pure hq))
  show wpAny _ _ (assign (.Name y py) X.env (.ref L)) _ _ _
  refine wpAny_assign_Name (store_ok2 (v := V.ref L) I' hN hy (.inl hyl) rfl (fun s2 I2 ⟨a, sb, ha⟩ => ?_) (.inr hyl))
  obtain ⟨f0, f1, f2, f3, f4, f5⟩ := f
  have haC : C ≠ a := by
    rcases ha with z | z
    · rw [z]; exact f1
    · exact fun e => f4 y a z e.symm
  refine ⟨m, hn.sameBut sb haC, fun h3 sb3 => ?_⟩
  exact ⟨_, H', I2.turned (t' := s2.toks) (fun b o hb e => (sb3.2 b hb).trans e) f0 f1 f3 f4 f5, q⟩
theorem sw_true {elt : Expr} {gs : List Comprehension} {scope : Scope} {pos py : Pos} {y : Str} {l : Nat} {env : Env} (hk : env.scope.kind = .function) (hy : env.scope.names.lookup y = some .local) (hl : (py.line == pos.line) = true)
    (ha : (scope.names.any fun (n, k) => n == y && (k == .local || k == .cell)) = false) : swapsWith (.ListComp elt gs scope pos) (some (.Name y py)) l env = pure true := by
  have ky : env.kindOf y = some .local := hy
  have hb : env.blockKind = .function := by unfold Env.blockKind; rw [hk]; rfl
  unfold swapsWith
  simp only [hb, ky, ha, Expr.pos, hl]
  rfl
end
theorem lc_range {lo : Int} {n : Nat} {g : TG} {tt : TT} {te : TE} {vs : List Nat} {σ : St} {H1 : Hp} {D : Addr} {Qd : Hp → Prop} (Pv : Nat → Hp → Prop) (h0 : Pv 0 (upd H1 D (.lst [])))
    (hs : ∀ i H, i < n → Pv i H → g (.int (lo + i)) (wipe σ vs) H fun σ2 H2 => wipe σ2 vs = wipe σ vs ∧ tt σ2 H2 fun b H3 =>
      if b = true then te σ2 H3 fun y H4 => ∃ acc, H4 D = some (.lst acc) ∧ acc.length < sizeLine ∧ Pv (i + 1) (upd H4 D (.lst (acc ++ [y]))) else Pv (i + 1) H3) (hd : ∀ H, Pv n H → Qd H) :
    ∃ W : Nat → Nat → Hp → Prop, (∃ m, W 0 m (upd H1 D (.lst []))) ∧ ∀ i m H, W i m H →
      ((Itr lo n).stop i H ∧ Qd H) ∨ ((Itr lo n).go i H ∧ ∃ Nx : Hp → Prop, (∀ H', Nx H' → ∃ m', m' < m ∧ W (i + 1) m' H') ∧ ∀ x H', (Itr lo n).yld i H x H' → g x (wipe σ vs) H' fun σ2 H2 => wipe σ2 vs = wipe σ vs ∧ tt σ2 H2 fun b H3 =>
        if b = true then te σ2 H3 fun y H4 => ∃ acc, H4 D = some (.lst acc) ∧ acc.length < sizeLine ∧ Nx (upd H4 D (.lst (acc ++ [y]))) else Nx H3) := by
  refine ⟨fun i m H => m = n - i ∧ i ≤ n ∧ Pv i H, ⟨n, by simp, Nat.zero_le _, h0⟩, ?_⟩
  rintro i m H ⟨rfl, hi, p⟩
  by_cases hlt : i < n
  · refine .inr ⟨hlt, Pv (i + 1), fun H' p' => ⟨n - (i + 1), by omega, rfl, hlt, p'⟩, fun x H' y => ?_⟩
    obtain ⟨e, y⟩ := y
    subst e y
    exact hs i _ hlt p
  · have e : i = n := by omega
    subst e
    exact .inl ⟨Nat.le_refl _, hd H p⟩
theorem lc_list {K : PySem.W.Frag} {a : Addr} {xs : List V} {g : TG} {tt : TT} {te : TE} {vs : List Nat} {σ : St} {H1 : Hp} {D : Addr} {Qd : Hp → Prop} (Pv : Nat → Hp → Prop) (h0 : Pv 0 (upd H1 D (.lst []))) (hl : ∀ i H, i ≤ xs.length → Pv i H → SqL K H a xs)
    (hs : ∀ i x H, xs[i]? = some x → Pv i H → g x (wipe σ vs) H fun σ2 H2 => wipe σ2 vs = wipe σ vs ∧ tt σ2 H2 fun b H3 =>
      if b = true then te σ2 H3 fun y H4 => ∃ acc, H4 D = some (.lst acc) ∧ acc.length < sizeLine ∧ Pv (i + 1) (upd H4 D (.lst (acc ++ [y]))) else Pv (i + 1) H3) (hd : ∀ H, Pv xs.length H → Qd H) :
    ∃ W : Nat → Nat → Hp → Prop, (∃ m, W 0 m (upd H1 D (.lst []))) ∧ ∀ i m H, W i m H →
      ((Itl K a).stop i H ∧ Qd H) ∨ ((Itl K a).go i H ∧ ∃ Nx : Hp → Prop, (∀ H', Nx H' → ∃ m', m' < m ∧ W (i + 1) m' H') ∧ ∀ x H', (Itl K a).yld i H x H' → g x (wipe σ vs) H' fun σ2 H2 => wipe σ2 vs = wipe σ vs ∧ tt σ2 H2 fun b H3 =>
        if b = true then te σ2 H3 fun y H4 => ∃ acc, H4 D = some (.lst acc) ∧ acc.length < sizeLine ∧ Nx (upd H4 D (.lst (acc ++ [y]))) else Nx H3) := by
  refine ⟨fun i m H => m = xs.length - i ∧ i ≤ xs.length ∧ Pv i H, ⟨xs.length, by simp, Nat.zero_le _, h0⟩, ?_⟩
  rintro i m H ⟨rfl, hi, p⟩
  have q := hl i H hi p
  by_cases hlt : i < xs.length
  · refine .inr ⟨⟨xs, xs[i], q, by simp [hlt]⟩, Pv (i + 1), fun H' p' => ⟨xs.length - (i + 1), by omega, rfl, hlt, p'⟩, fun x H' y => ?_⟩
    obtain ⟨e, y⟩ := y
    subst e
    exact hs i x _ (y xs q) p
  · have e : i = xs.length := by omega
    subst e
    exact .inl ⟨⟨xs, q, Nat.le_refl _⟩, hd H p⟩
def blkC (N : List Str) (sc scope : Scope) (own : List (Str × Nat)) : Bool :=
  (match scope.kind with | .function => true | _ => false) && (scope.names.all fun y => decide (scope.names.lookup y.1 = some y.2)) && (own.all fun p => decide (N[p.2]? = some p.1)) &&
    (scope.names.all fun y => match y.2 with
      | .free => (match sc.names.lookup y.1 with | some .cell => true | some .free => true | _ => false)
      | .local => decide (y.1 ∈ own.map (·.1)) || decide (y.1 ∉ N)
      | .cell => decide (y.1 ∈ own.map (·.1)) || decide (y.1 ∉ N)
      | _ => true)
theorem blkOk_by {N : List Str} {sc scope : Scope} {own : List (Str × Nat)} (h : blkC N sc scope own = true) : BlkOk N sc scope own := by
  unfold blkC at h
  simp only [Bool.and_eq_true, List.all_eq_true, decide_eq_true_eq] at h
  obtain ⟨⟨⟨h1, h2⟩, h3⟩, h4⟩ := h
  refine ⟨?_, h2, h3, fun y hy e => ?_, fun y hy e => ?_⟩
  · split at h1
    · assumption
    · cases h1
  · have q := h4 y hy
    simp only [e] at q
    split at q <;> first | exact .inl (by assumption) | exact .inr (by assumption) | cases q
  · have q := h4 y hy
    rcases e with e | e <;> (simp only [e, Bool.or_eq_true, decide_eq_true_eq] at q; exact q)
end L2
namespace L2
open PySem PySem.Spec PyProof.Rows
section
variable {prog : Program} {w : World} {A : Around} {R : Result → Shared → Prop} {s : Shared} {elt t0 i0 t1 i1 : Expr} {ifs0 ifs1 : List Expr} {scope : Scope} {pos : Pos} {it acc : Value} {env : Env}
end
section
variable {X : Cx}
end
end L2
namespace L2
open PySem PySem.Spec PyProof.Rows
section
variable {κ : Type} [DecidableEq κ]
end
section
variable {P : Program} {w : World} {H : Hp} {h : Heap} {a : Addr}
end
section
variable {X : Cx} {pins : List (Addr × Obj)} {σ : St} {H : Hp} {s : Shared} {a : Addr} {y v : V} {u r : Value} {o : Option V} {A : Around} {E : Value → Shared → Prop}
end
section
variable {X : Cx} {pins : List (Addr × Obj)} {σ : St} {H : Hp} {s : Shared} {a : Addr} {kvs : List (Key × V)} {k : Key} {u : Value} {A : Around} {E : Value → Shared → Prop}
end
section
variable {X : Cx} {o i e value : Expr} {pos pos' tpos : Pos} {td ty tv : TE}
end
section
variable {X : Cx} {pos : Pos}
end
section
variable {X : Cx} {pins : List (Addr × Obj)} {σ : St} {H : Hp} {s : Shared} {a : Addr} {y d : V} {u r : Value} {o : Option V} {A : Around} {E : Value → Shared → Prop}
end
section
variable {X : Cx} {o e f : Expr} {apos cpos : Pos} {td ty tx : TE}
end
section
variable {X : Cx} {pins : List (Addr × Obj)} {σ : St} {H : Hp} {s : Shared} {a : Addr} {kvs : List (Key × V)} {A : Around} {E : Value → Shared → Prop}
end
section
variable {X : Cx} {pins : List (Addr × Obj)} {σ : St} {H : Hp} {s : Shared} {a : Addr} {y : V} {u : Value} {A : Around} {E : Value → Shared → Prop}
end
end L2
namespace L2
open PySem PySem.Spec PyProof.Rows
section
variable {prog : Program} {w : World} {A : Around} {E : Value → Shared → Prop}
end
section
variable {X : Cx}
end
end L2
namespace L2
open PySem PySem.Spec PyProof.Rows
section
variable {X : Cx} {pins : List (Addr × Obj)} {σ : St} {H : Hp} {s : Shared} {h' : Heap}
theorem Inv.turnedL {t' : Nat} {ch : List Addr} (I : Inv X pins σ H s) (k : ∀ b o, b ∉ ch → s.heap.get? b = some o → h'.get? b = some o) (hf : ∀ b ∈ ch, FpOk X pins H b) : Inv X pins σ H { s with heap := h', toks := t' } := by
  have nit : ∀ b u, H b = some u → b ∉ ch := fun b u e z => by
    have q := (hf b z).1
    rw [q] at e; cases e
  refine I.step (g' := s.gens) (d' := s.drawn) (ch := ch) (fun b hb => ⟨(hf b hb).2.2.2.1, (hf b hb).2.1, (hf b hb).2.2.2.2.1, (hf b hb).2.2.2.2.2⟩) (fun b o _ _ hc e _ => k b o hc e) (fun b o _ _ hc e _ => ⟨o.slots, k b o hc e⟩)
    (fun _ _ _ _ n => n) (fun b o hc e => ⟨o, k b o hc e⟩) (fun _ _ e => e) (fun _ _ _ e => e) (fun b ps e => ⟨#[], by rw [e]; simp⟩) (fun m hm => ?_) (fun b u e => ?_) I.bare
  · obtain ⟨o, es, ep, ho, r⟩ := hm
    exact ⟨o, es, ep, k _ o (fun z => (hf _ z).2.1 rfl) ho, r⟩
  · refine (I.hok b u e).stay (fun c v hc q => k c v ?_ q) (fun _ q => q) fun _ _ q => q
    rcases hc with z | z
    · rw [z]; exact nit b u e
    · exact nit c _ z
theorem Inv.turnedNew {t' : Nat} {ch : List Addr} {T : Addr} {ob : HO} (I : Inv X pins σ H s) (k : ∀ b o, b ∉ ch → s.heap.get? b = some o → h'.get? b = some o) (hf : ∀ b ∈ ch, FpOk X pins H b) (hT : s.heap.objs.size ≤ T)
    (new : ObjOk X.prog X.w (upd H T ob) h' T ob) : Inv X pins σ (upd H T ob) { s with heap := h', toks := t' } := by
  have hn : H T = none := I.hok.fresh hT
  have nit : ∀ b u, H b = some u → b ∉ ch := fun b u e z => by
    have q := (hf b z).1
    rw [q] at e; cases e
  refine I.step (g' := s.gens) (d' := s.drawn) (ch := ch) (fun b hb => ⟨(hf b hb).2.2.2.1, (hf b hb).2.1, (hf b hb).2.2.2.2.1, (hf b hb).2.2.2.2.2⟩) (fun b o _ _ hc e _ => k b o hc e) (fun b o _ _ hc e _ => ⟨o.slots, k b o hc e⟩)
    (fun b o _ e n => ?_) (fun b o hc e => ⟨o, k b o hc e⟩) (fun b xs e => ?_) (fun b o u e => ?_) (fun b ps e => ⟨#[], ?_⟩) (fun m hm => ?_) (fun b u e => ?_) I.bare
  · rw [upd_ne (Nat.ne_of_lt (Nat.lt_of_lt_of_le (Heap.lt_size e) hT))]; exact n
  · rw [upd_ne (ne_of_none e hn)]; exact e
  · rw [upd_ne (ne_of_none e hn)]; exact e
  · rw [upd_ne (ne_of_none e hn), e]; simp
  · obtain ⟨o, es, ep, ho, r⟩ := hm
    exact ⟨o, es, ep, k _ o (fun z => (hf _ z).2.1 rfl) ho, r⟩
  · by_cases hb : b = T
    · subst hb
      rw [upd_same] at e
      cases e
      exact new
    · rw [upd_ne hb] at e
      refine (I.hok b u e).stay (fun c v hc q => k c v ?_ q) (fun c q => by rw [upd_ne (ne_of_none q hn)]; exact q) fun c xs q => by rw [upd_ne (ne_of_none q hn)]; exact q
      rcases hc with z | z
      · rw [z]; exact nit b u e
      · exact nit c _ z
end
section
variable {X : Cx}
end
section
variable {X : Cx} {tg : Expr}
end
section
variable {X : Cx} {tg : Expr}
end
section
variable {prog : Program} {w : World} {A : Around} {E : Value → Shared → Prop} {s : Shared}
end
section
variable {X : Cx} {pins : List (Addr × Obj)} {σ : St} {H : Hp} {s : Shared} {d : Addr} {o : Obj}
end
section
variable {P : Program} {w : World} {K : PySem.W.Frag} {tg : Expr} {d : Addr} {o : Obj} {es : Array DictEntry} {ep : Nat}
end
section
variable {X : Cx} {tg e : Expr} {td : TE} {apos cpos : Pos}
end
theorem boot_zip5 : bootBuiltins "zip" = some (.type "zip") := by decide +kernel
end L2
section 
namespace Bits
open PySem PyProof.Rows
end Bits
end 
section 
namespace TL
open PySem PySem.Builtin PySem.Builtin.Str PySem.StrLaws
end TL
end 
namespace L2
open PySem PySem.Spec PyProof.Rows
section
variable {X : Cx} {pins : List (Addr × Obj)} {σ : St} {H : Hp} {s : Shared} {Q : VK}
end
section
variable {X : Cx}
end
section
variable {X : Cx} {o e : Expr} {to te : TE}
end
end L2
namespace L2
open PySem PySem.Spec PyProof.Rows
section
variable {X : Cx}
end
end L2
namespace Att
open PySem PySem.W PySem.Calls PyProof.Rows
section
variable {prog : Program} {w : World} {A : Around} {E : Value → Shared → Prop} {s : Shared} {K : Frag}
end
end Att
namespace L2
open PySem PySem.Spec PyProof.Rows
end L2
namespace L2
open PySem PySem.Spec PyProof.Rows
end L2
namespace L2
open PySem PySem.Spec PyProof.Rows
def inClass (s : Stmt) (j : Nat) : Stmt := match s with
  | .ClassDef _ _ _ body _ _ _ _ _ _ _ => body.getD j (.Pass ⟨0, 0, 0, 0⟩)
  | _ => .Pass ⟨0, 0, 0, 0⟩
def defArgs (s : Stmt) : Arguments := match s with
  | .FunctionDef _ a _ _ _ _ _ _ _ _ => a
  | _ => { posonlyargs := [], args := [], vararg := none, kwonlyargs := [], kw_defaults := [], kwarg := none, defaults := [] }
def defBody (s : Stmt) : List Stmt := match s with
  | .FunctionDef _ _ b _ _ _ _ _ _ _ => b
  | _ => []
def defScope (s : Stmt) : Scope := match s with
  | .FunctionDef _ _ _ _ _ _ sc _ _ _ => sc
  | _ => { kind := .function, names := [], isGenerator := false, isCoroutine := false }
abbrev CX0 : CXT := fun _ _ _ _ _ _ => False
abbrev E0 : XK := fun _ _ _ => False
theorem pass0 {X : Cx} : Passes CX0 X E0 := fun _ _ _ _ _ _ _ h => h.elim
structure Fun (K : PySem.W.Frag) (x qual : Str) (st : Stmt) (f : Addr) (fd : FuncData) : Prop where
  ex : ∃ (oc : Value) (od : Option Addr) (kV doc pm : Value) (an : Option Addr) (cdv ct : Value) (osl : Array (Option Value)),
    fd = PySem.W.fnOf x qual (defArgs st) (defBody st) (defScope st) .none kV doc pm an cdv ct ∧ K.lookup f = some ⟨oc, od, .func fd, osl⟩ ∧ PySem.W.codeIn K cdv qual = true
  kp : PySem.W.keepIn K (.ref f) = true
section
variable {P : Program} {w : World} {K : PySem.W.Frag} {mg : Str → Option Value} {base : Heap}
theorem Fun.ok {x qual : Str} {st : Stmt} {f : Addr} {fd : FuncData} {N ps : List Str} {k : Nat} {sp : Sp} (F : Fun K x qual st f fd) (S : FnScope N ps (defScope st)) (len : ∀ vs H Q E, sp vs H Q E → vs.length = ps.length)
    (hbody : ∀ (cdv : Value) (A : Around) (outer : List Env) (s : Shared) (H : Hp) (vs : List V) (Q : VK) (E : XK), Room k (A.deeper (envOfC qual (defScope st) s.heap.objs.size f cdv)) → sp vs H Q E →
      ∃ t, PSs (cxOf CX0 P w K mg base N qual (defScope st) f cdv A outer s H E).nox (defBody st) t ∧ t { nx := fun _ H' => Q .non H', rt := Q } (start N vs) H) : FnOk P w K mg base CX0 (k + 1) f fd ps sp := by
  obtain ⟨oc, od, kV, doc, pm, an, cdv, ct, osl, rfl, lk, hcd⟩ := F.ex
  refine fn_of lk hcd S len fun A outer s H vs Q E hr hsp => ?_
  obtain ⟨t, h, q⟩ := hbody cdv A outer s H vs Q E hr hsp
  exact ⟨t, h.nox, q⟩
theorem Fun.binds {x qual : Str} {st : Stmt} {f : Addr} {fd : FuncData} {ps : List Str} (F : Fun K x qual st f fd)
    (h : ∀ (kV doc pm : Value) (an : Option Addr) (cdv ct : Value) (us : List Value), us.length = ps.length → bindArgs (PySem.W.fnOf x qual (defArgs st) (defBody st) (defScope st) .none kV doc pm an cdv ct) ⟨us, []⟩ = pure (ps.zip us)) : Binds K fd ps [] := by
  obtain ⟨oc, od, kV, doc, pm, an, cdv, ct, osl, rfl, lk, hcd⟩ := F.ex
  exact .all (h kV doc pm an cdv ct)
theorem fun_mk {x qual : Str} {st : Stmt} {f : Addr} {oc : Value} {od an : Option Addr} {osl : Array (Option Value)} {kV doc pm cdv ct : Value} (l : K.lookup f = some ⟨oc, od, .func (PySem.W.fnOf x qual (defArgs st) (defBody st) (defScope st) .none kV doc pm an cdv ct), osl⟩)
    (c : PySem.W.codeIn K cdv qual = true) (k : PySem.W.keepIn K (.ref f) = true) : Fun K x qual st f (PySem.W.fnOf x qual (defArgs st) (defBody st) (defScope st) .none kV doc pm an cdv ct) := ⟨⟨oc, od, kV, doc, pm, an, cdv, ct, osl, rfl, l, c⟩, k⟩
end
theorem hu_of {A : Around} {k : Nat} (hr : Room k A) : A.units + 1 < cLine := Nat.lt_of_le_of_lt (Nat.add_le_add_left (by decide : 1 ≤ 64) _) hr.units
section
variable {X : Cx}
theorem pv (i : Nat) {x : Str} {pos : Pos} (hN : X.N[i]? = some x := by rfl) (hv : Vis X.env.scope x := by first | exact Or.inl rfl | exact Or.inr (Or.inl rfl) | exact Or.inr (Or.inr rfl)) (hd : (x == ("__debug__" : Str)) = false := by decide)
    (hcd : (x == ("__classdict__" : Str)) = false := by decide) : PE X (.Name x pos) (tVar i) := pe_var hN hv hd hcd
end
theorem iteF {A B : Prop} (h : B) : if false = true then A else B := by
  rw [if_neg Bool.false_ne_true]
  exact h
theorem iteT {A B : Prop} (h : A) : if true = true then A else B := by
  rw [if_pos rfl]
  exact h
theorem ite2 {c A B : Prop} [Decidable c] (h1 : c → A) (h2 : ¬ c → B) : if c then A else B := by
  by_cases h : c
  · rw [if_pos h]
    exact h1 h
  · rw [if_neg h]
    exact h2 h
theorem iteNS {c A B : Prop} [Decidable c] (hc : c) (h : B) : if (!decide c) = true then A else B := by
  rw [decide_eq_true hc]
  exact iteF h
def Same (H H' : Hp) : Prop := ∀ b o, H b = some o → H' b = some o
theorem Same.seq {K : PySem.W.Frag} {H H' : Hp} {a : Addr} {xs : List V} (e : Same H H') (h : SqL K H a xs) : SqL K H' a xs := by
  rcases h with (h | ⟨o, h⟩) | h
  · exact .inl (.inl (e _ _ h))
  · exact .inl (.inr ⟨o, e _ _ h⟩)
  · exact .inr h
section
variable {κ : Type} [DecidableEq κ]
end
theorem at_of {xs : List V} {z : Int} {j : Nat} {v : V} (e : z = (j : Int)) (h : xs[j]? = some v) : atI xs z = some v := by
  rw [e]
  exact atI_nat h
theorem nd_ix {α : Type} {l : List α} (hN : l.Nodup) {i j : Nat} {x : α} (a : l[i]? = some x) (b : l[j]? = some x) : i = j := by
  obtain ⟨h1, e1⟩ := List.getElem?_eq_some_iff.mp a
  obtain ⟨h2, e2⟩ := List.getElem?_eq_some_iff.mp b
  exact (List.getElem_inj hN).mp (e1.trans e2.symm)
end L2
section
set_option Elab.async false
set_option linter.all false
set_option maxRecDepth 100000
set_option maxHeartbeats 2000000
namespace L2
open PySem PySem.Spec PyProof.Rows
open PySem.W (WData Codec OpenSpec Well WellAll ReadsW ReadsAllW)
mutual
/-- x stands for the datum d, lists and tuples all the way -/
inductive Dw (K : PySem.W.Frag) (H : Hp) : V → WData → Prop
  | non : Dw K H .non .none
  | bl (b : Bool) : Dw K H (.bl b) (.bool b)
  | int (i : Int) : Dw K H (.int i) (.int i)
  | str (x : Str) : Dw K H (.str x) (.str x)
  | byt (b : Array UInt8) : Dw K H (.byt b) (.bytes b.toList)
  | lst {a : Addr} {xs : List V} {ds : List WData} : SqL K H a xs → DwAll K H xs ds → Dw K H (.ref a) (.list ds)
  | tup {a : Addr} {xs : List V} {ds : List WData} : SqT K H a xs → DwAll K H xs ds → Dw K H (.ref a) (.tuple ds)
inductive DwAll (K : PySem.W.Frag) (H : Hp) : List V → List WData → Prop
  | nil : DwAll K H [] []
  | cons {v : V} {vs : List V} {d : WData} {ds : List WData} : Dw K H v d → DwAll K H vs ds → DwAll K H (v :: vs) (d :: ds)
end
theorem dw_ints {K : PySem.W.Frag} {H : Hp} : ∀ ns : List Int, DwAll K H (ns.map V.int) (ns.map WData.int)
  | [] => .nil
  | n :: r => .cons (.int n) (dw_ints r)
theorem ints_dw {K : PySem.W.Frag} {H : Hp} : ∀ (ns : List Int) (xs : List V), DwAll K H xs (ns.map WData.int) → xs = ns.map V.int
  | [], xs, h => by
    cases h
    rfl
  | n :: r, xs, h => by
    cases h with
    | cons h1 h2 =>
      cases h1
      rw [ints_dw r _ h2] <;> rfl
section
variable {P : Program} {w : World} {K : PySem.W.Frag} {H : Hp} {h : Heap} {R : PySem.W.WRecords} {cl : Str → Option Addr}
theorem sqL_at {a : Addr} {xs : List V} (hok : HOk P w H h) (KX : K.In h) (q : SqL K H a xs) : ∃ (its : List Value) (o : Obj) (n : Nat), Vals xs its ∧ h.get? a = some o ∧ o.cls = .type "list" ∧ o.data = .seq its.toArray n := by
  rcases q with q | ⟨o, its, n, e, hc, _, hd, _, hv⟩
  · obtain ⟨_, its, n, hv, e⟩ := (show ObjOk P w H h a (.lst xs) from q.ok hok)
    exact ⟨its, _, n, hv, e, rfl, rfl⟩
  · exact ⟨its.toList, o, n, hv, KX _ _ e, hc, by simp [hd]⟩
theorem sqT_at {a : Addr} {xs : List V} (hok : HOk P w H h) (KX : K.In h) (q : SqT K H a xs) : ∃ (its : List Value) (o : Obj) (n : Nat), Vals xs its ∧ h.get? a = some o ∧ o.cls = .type "tuple" ∧ o.data = .seq its.toArray n := by
  rcases q with q | ⟨o, its, n, e, hc, hd, _, hv⟩
  · obtain ⟨_, its, hv, o, e, hc, n, hd⟩ := (show ObjOk P w H h a (.tup xs) from q.ok hok)
    exact ⟨its, o, n, hv, e, hc, hd⟩
  · exact ⟨its.toList, o, n, hv, KX _ _ e, hc, by simp [hd]⟩
mutual
theorem Dw.reads (hok : HOk P w H h) (KX : K.In h) : ∀ (d : WData) (v : V) (u : Value), Dw K H v d → RelV v u → ∃ as, ReadsW R cl h u d as
  | .none, _, _, x, r => by
    cases x
    cases r
    exact ⟨_, ReadsW.none⟩
  | .bool b, _, _, x, r => by
    cases x
    cases r
    exact ⟨_, ReadsW.bool b⟩
  | .int i, _, _, x, r => by
    cases x
    obtain ⟨t, rfl⟩ := r
    exact ⟨_, ReadsW.int i t⟩
  | .str s, _, _, x, r => by
    cases x
    obtain ⟨t, rfl⟩ := r
    exact ⟨_, ReadsW.str s t⟩
  | .bytes b, _, _, x, r => by
    cases x
    obtain ⟨t, rfl⟩ := r
    exact ⟨_, ReadsW.bytes _ t⟩
  | .list ds, _, _, x, r => by
    cases x with
    | lst hs ha =>
      cases r
      obtain ⟨its, o, n, rv, ho, hc, hd⟩ := sqL_at hok KX hs
      obtain ⟨as, hr⟩ := Dw.readsAll hok KX ds _ its ha rv
      exact ⟨_, ReadsW.list ho hc hd hr⟩
  | .tuple ds, _, _, x, r => by
    cases x with
    | tup hs ha =>
      cases r
      obtain ⟨its, o, n, rv, ho, hc, hd⟩ := sqT_at hok KX hs
      obtain ⟨as, hr⟩ := Dw.readsAll hok KX ds _ its ha rv
      exact ⟨_, ReadsW.tuple ho hc hd hr⟩
  | .float _, _, _, x, _ => by cases x
  | .dict _, _, _, x, _ => by cases x
  | .bytearray _, _, _, x, _ => by cases x
  | .set _, _, _, x, _ => by cases x
  | .frozenset _, _, _, x, _ => by cases x
  | .obj _ _, _, _, x, _ => by cases x
theorem Dw.readsAll (hok : HOk P w H h) (KX : K.In h) : ∀ (ds : List WData) (vs : List V) (us : List Value), DwAll K H vs ds → Vals vs us → ∃ as, ReadsAllW R cl h us ds as
  | [], _, _, x, r => by
    cases x
    cases r
    exact ⟨_, ReadsAllW.nil⟩
  | d :: ds, _, _, x, r => by
    cases x with
    | cons h1 h2 =>
      cases r with
      | cons r1 r2 =>
        obtain ⟨as, q1⟩ := Dw.reads hok KX d _ _ h1 r1
        obtain ⟨bs, q2⟩ := Dw.readsAll hok KX ds _ _ h2 r2
        exact ⟨_, ReadsAllW.cons q1 q2⟩
end
end
mutual
/-- data that a codec tells -/
def plW : WData → Bool
  | .none => true
  | .bool _ => true
  | .int _ => true
  | .str _ => true
  | .bytes _ => true
  | .list xs => plWs xs
  | .tuple xs => plWs xs
  | _ => false
def plWs : List WData → Bool
  | [] => true
  | x :: r => plW x && plWs r
end
theorem plWs_map {α : Type} {f : α → WData} (h : ∀ a, plW (f a) = true) : ∀ l : List α, plWs (l.map f) = true
  | [] => rfl
  | x :: r => by
    show (plW (f x) && plWs (r.map f)) = true
    rw [h x, plWs_map h r] <;> rfl
theorem pl_enc : ∀ (c : Codec) (a : c.denote), plW (c.enc a) = true
  | .unit, _ => rfl
  | .bool, _ => rfl
  | .int _ _, _ => rfl
  | .nat _ _, _ => rfl
  | .u8, _ => rfl
  | .bytes _ _, _ => rfl
  | .text _ _ _ _, _ => rfl
  | .list _ _ c, a => plWs_map (fun x => pl_enc c x) a
  | .pair c d, a => by
    show (plW (c.enc a.1) && (plW (d.enc a.2) && true)) = true
    rw [pl_enc c a.1, pl_enc d a.2] <;> rfl
  | .triple c d e, a => by
    show (plW (c.enc a.1) && (plW (d.enc a.2.1) && (plW (e.enc a.2.2) && true))) = true
    rw [pl_enc c a.1, pl_enc d a.2.1, pl_enc e a.2.2] <;> rfl
  | .option c, none => rfl
  | .option c, some x => pl_enc c x
theorem pl_encAll : ∀ (cs : List Codec) (a : Codec.denoteAll cs), plWs (Codec.encAll cs a) = true
  | [], _ => rfl
  | c :: cs, a => by
    show (plW (c.enc a.1) && plWs (Codec.encAll cs a.2)) = true
    rw [pl_enc c a.1, pl_encAll cs a.2] <;> rfl
theorem weight_mem : ∀ {xs : List WData} {d : WData}, d ∈ xs → d.weight ≤ WData.weightAll xs
  | [], d, h => absurd h (by simp)
  | x :: r, d, h => by
    show d.weight ≤ x.weight + 1 + WData.weightAll r
    rcases List.mem_cons.mp h with e | m
    · rw [e]
      omega
    · have z := weight_mem m
      omega
def toV : Value → V
  | .none => .non
  | .bool b => .bl b
  | .int i _ => .int i
  | .str x _ => .str x
  | .bytes b _ => .byt b
  | .ref a => .ref a
  | _ => .non
def OkU (A : List Addr) : Value → Prop
  | .none => True
  | .bool _ => True
  | .int _ _ => True
  | .str _ _ => True
  | .bytes _ _ => True
  | .ref a => a ∈ A
  | _ => False
theorem OkU.mono {A B : List Addr} (h : ∀ a ∈ A, a ∈ B) : ∀ {u : Value}, OkU A u → OkU B u := fun {u} x => by
  cases u with
  | ref a => exact h a x
  | none => trivial
  | bool b => trivial
  | int i t => trivial
  | str s t => trivial
  | bytes b t => trivial
  | _ => exact False.elim x
theorem relV_toV {A : List Addr} {u : Value} (x : OkU A u) : RelV (toV u) u := by
  cases u with
  | ref a => rfl
  | none => rfl
  | bool b => rfl
  | int i t => exact ⟨t, rfl⟩
  | str s t => exact ⟨t, rfl⟩
  | bytes b t => exact ⟨t, rfl⟩
  | _ => exact False.elim x
theorem vals_toV {A : List Addr} : ∀ {vs : List Value}, (∀ u ∈ vs, OkU A u) → Vals (vs.map toV) vs
  | [], _ => .nil
  | u :: r, h => .cons (relV_toV (h u (List.mem_cons_self ..))) (vals_toV fun x hx => h x (List.mem_cons_of_mem _ hx))
def ArgOb (h : Heap) (A : List Addr) (a : Addr) : Prop := ∃ vs : List Value, vs.length ≤ sizeLine ∧ (∀ u ∈ vs, OkU A u) ∧
  (h.get? a = some { cls := .type "list", data := .seq vs.toArray } ∨ h.get? a = some { cls := .type "tuple", data := .seq vs.toArray })
theorem ArgOb.mono {h : Heap} {A B : List Addr} {a : Addr} (k : ∀ a ∈ A, a ∈ B) (x : ArgOb h A a) : ArgOb h B a := by
  obtain ⟨vs, h1, h2, h3⟩ := x
  exact ⟨vs, h1, fun u hu => (h2 u hu).mono k, h3⟩
theorem wellAll_len {P : Params} {h : Heap} : ∀ {vs : List Value} {ds : List WData}, WellAll P h vs ds → vs.length = ds.length
  | _, _, .nil => rfl
  | _, _, .cons _ b => by
    show _ + 1 = _ + 1
    rw [wellAll_len b]
theorem well_list {P : Params} {h : Heap} {v : Value} {ds : List WData} (x : Well P h v (.list ds)) : ∃ (a : Addr) (vs : List Value), v = .ref a ∧ h.get? a = some { cls := .type "list", data := .seq vs.toArray } ∧ WellAll P h vs ds := by
  cases x with
  | list ho hall => exact ⟨_, _, rfl, ho, hall⟩
theorem well_tuple {P : Params} {h : Heap} {v : Value} {ds : List WData} (x : Well P h v (.tuple ds)) : ∃ (a : Addr) (vs : List Value), v = .ref a ∧ h.get? a = some { cls := .type "tuple", data := .seq vs.toArray } ∧ WellAll P h vs ds := by
  cases x with
  | tuple ho hall => exact ⟨_, _, rfl, ho, hall⟩
theorem well_cons {P : Params} {h : Heap} {us : List Value} {d : WData} {ds : List WData} (x : WellAll P h us (d :: ds)) : ∃ (v : Value) (vs : List Value), us = v :: vs ∧ Well P h v d ∧ WellAll P h vs ds := by
  cases x with
  | cons a b => exact ⟨_, _, rfl, a, b⟩
theorem line_of {n : Nat} (h : n ≤ 1048576) : n ≤ sizeLine := Nat.le_trans h (by decide)
section
variable {P : Params} {h : Heap}
mutual
theorem area_one : ∀ (d : WData) (v : Value), Well P h v d → plW d = true → d.weight ≤ 1048576 → ∃ A : List Addr, OkU A v ∧ ∀ a ∈ A, ArgOb h A a
  | .none, _, x, _, _ => by
    cases x
    exact ⟨[], trivial, fun a m => absurd m (by simp)⟩
  | .bool b, _, x, _, _ => by
    cases x
    exact ⟨[], trivial, fun a m => absurd m (by simp)⟩
  | .int i, _, x, _, _ => by
    cases x
    exact ⟨[], trivial, fun a m => absurd m (by simp)⟩
  | .str s, _, x, _, _ => by
    cases x
    exact ⟨[], trivial, fun a m => absurd m (by simp)⟩
  | .bytes b, _, x, _, _ => by
    cases x
    exact ⟨[], trivial, fun a m => absurd m (by simp)⟩
  | .list ds, _, x, p, z => by
    obtain ⟨a, vs, rfl, ho, hall⟩ := well_list x
    have z2 : WData.weightAll ds ≤ 1048576 := z
    obtain ⟨A, h1, h2⟩ := area_all ds _ hall p fun d hd => Nat.le_trans (weight_mem hd) z2
    have k : ∀ b ∈ A, b ∈ a :: A := fun b hb => List.mem_cons_of_mem _ hb
    refine ⟨a :: A, List.mem_cons_self .., fun b hb => ?_⟩
    rcases List.mem_cons.mp hb with e | m
    · rw [e]
      exact ⟨vs, line_of (by rw [wellAll_len hall]; exact Nat.le_trans (PySem.W.length_le_weightAllW ds) z2), fun u hu => (h1 u hu).mono k, .inl ho⟩
    · exact (h2 b m).mono k
  | .tuple ds, _, x, p, z => by
    obtain ⟨a, vs, rfl, ho, hall⟩ := well_tuple x
    have z2 : WData.weightAll ds ≤ 1048576 := z
    obtain ⟨A, h1, h2⟩ := area_all ds _ hall p fun d hd => Nat.le_trans (weight_mem hd) z2
    have k : ∀ b ∈ A, b ∈ a :: A := fun b hb => List.mem_cons_of_mem _ hb
    refine ⟨a :: A, List.mem_cons_self .., fun b hb => ?_⟩
    rcases List.mem_cons.mp hb with e | m
    · rw [e]
      exact ⟨vs, line_of (by rw [wellAll_len hall]; exact Nat.le_trans (PySem.W.length_le_weightAllW ds) z2), fun u hu => (h1 u hu).mono k, .inr ho⟩
    · exact (h2 b m).mono k
  | .float _, _, _, p, _ => Bool.noConfusion (show false = true from p)
  | .dict _, _, _, p, _ => Bool.noConfusion (show false = true from p)
  | .bytearray _, _, _, p, _ => Bool.noConfusion (show false = true from p)
  | .set _, _, _, p, _ => Bool.noConfusion (show false = true from p)
  | .frozenset _, _, _, p, _ => Bool.noConfusion (show false = true from p)
  | .obj _ _, _, _, p, _ => Bool.noConfusion (show false = true from p)
theorem area_all : ∀ (ds : List WData) (vs : List Value), WellAll P h vs ds → plWs ds = true → (∀ d ∈ ds, d.weight ≤ 1048576) → ∃ A : List Addr, (∀ u ∈ vs, OkU A u) ∧ ∀ a ∈ A, ArgOb h A a
  | [], _, x, _, _ => by
    cases x
    exact ⟨[], fun u m => absurd m (by simp), fun a m => absurd m (by simp)⟩
  | d :: ds, _, x, p, z => by
    obtain ⟨v, vs, rfl, x1, x2⟩ := well_cons x
    have q : plW d = true ∧ plWs ds = true := Bool.and_eq_true_iff.mp p
    obtain ⟨A, a1, a2⟩ := area_one d v x1 q.1 (z d (List.mem_cons_self ..))
    obtain ⟨B, b1, b2⟩ := area_all ds vs x2 q.2 fun e he => z e (List.mem_cons_of_mem _ he)
    have kA : ∀ b ∈ A, b ∈ A ++ B := fun b hb => List.mem_append.mpr (.inl hb)
    have kB : ∀ b ∈ B, b ∈ A ++ B := fun b hb => List.mem_append.mpr (.inr hb)
    refine ⟨A ++ B, fun u hu => ?_, fun b hb => ?_⟩
    · rcases List.mem_cons.mp hu with e | m
      · rw [e]
        exact a1.mono kA
      · exact (b1 u m).mono kB
    · rcases List.mem_append.mp hb with m | m
      · exact (a2 b m).mono kA
      · exact (b2 b m).mono kB
end
end
def hoOf (o : Obj) : Option HO := match o.data with
  | .seq vs _ => if (o.cls == Value.type "list") = true then some (.frz o (.lst (vs.toList.map toV))) else some (.frz o (.tup (vs.toList.map toV)))
  | _ => none
def argH (K : PySem.W.Frag) (h : Heap) (A : List Addr) : Hp := fun b => if b ∈ A then (if (K.lookup b).isNone = true then (h.get? b).bind hoOf else none) else none
def OnlyF (H : Hp) : Prop := ∀ b, H b = none ∨ ∃ o u, H b = some (.frz o u)
theorem hoOf_lst (vs : List Value) : hoOf { cls := .type "list", data := .seq vs.toArray } = some (.frz { cls := .type "list", data := .seq vs.toArray } (.lst (vs.map toV))) := by
  show (if (Value.type "list" == Value.type "list") = true then some (HO.frz { cls := .type "list", data := .seq vs.toArray } (.lst (vs.toArray.toList.map toV))) else some (HO.frz { cls := .type "list", data := .seq vs.toArray } (.tup (vs.toArray.toList.map toV)))) = _
  rw [if_pos (beq_self_eq_true _)]
theorem hoOf_tup (vs : List Value) : hoOf { cls := .type "tuple", data := .seq vs.toArray } = some (.frz { cls := .type "tuple", data := .seq vs.toArray } (.tup (vs.map toV))) := by
  show (if (Value.type "tuple" == Value.type "list") = true then some (HO.frz { cls := .type "tuple", data := .seq vs.toArray } (.lst (vs.toArray.toList.map toV))) else some (HO.frz { cls := .type "tuple", data := .seq vs.toArray } (.tup (vs.toArray.toList.map toV)))) = _
  rw [if_neg (by decide)]
section
variable {P : Program} {w : World} {K : PySem.W.Frag} {h : Heap} {A : List Addr}
theorem argH_at {b : Addr} {o : Obj} (hb : b ∈ A) (hk : K.lookup b = none) (e : h.get? b = some o) : argH K h A b = hoOf o := by
  unfold argH
  rw [if_pos hb, hk, if_pos (show (none : Option Obj).isNone = true from rfl), e] <;> rfl
theorem of_argH {b : Addr} {u : HO} (q : argH K h A b = some u) : b ∈ A ∧ K.lookup b = none := by
  unfold argH at q
  by_cases hb : b ∈ A
  · rw [if_pos hb] at q
    cases hk : K.lookup b with
    | none => exact ⟨hb, rfl⟩
    | some o =>
      rw [hk, if_neg (by simp)] at q
      cases q
  · rw [if_neg hb] at q
    cases q
theorem argH_is (ar : ∀ a ∈ A, ArgOb h A a) {b : Addr} {u : HO} (q : argH K h A b = some u) : K.lookup b = none ∧ ∃ vs : List Value, vs.length ≤ sizeLine ∧ (∀ u ∈ vs, OkU A u) ∧
    ((h.get? b = some { cls := .type "list", data := .seq vs.toArray } ∧ u = .frz { cls := .type "list", data := .seq vs.toArray } (.lst (vs.map toV))) ∨
     (h.get? b = some { cls := .type "tuple", data := .seq vs.toArray } ∧ u = .frz { cls := .type "tuple", data := .seq vs.toArray } (.tup (vs.map toV)))) := by
  obtain ⟨hb, hk⟩ := of_argH q
  obtain ⟨vs, h1, h2, h3⟩ := ar b hb
  refine ⟨hk, vs, h1, h2, ?_⟩
  rcases h3 with e | e
  · rw [argH_at hb hk e, hoOf_lst] at q
    exact .inl ⟨e, (Option.some.inj q).symm⟩
  · rw [argH_at hb hk e, hoOf_tup] at q
    exact .inr ⟨e, (Option.some.inj q).symm⟩
theorem argH_only (ar : ∀ a ∈ A, ArgOb h A a) : OnlyF (argH K h A) := fun b => by
  cases q : argH K h A b with
  | none => exact .inl rfl
  | some u =>
    obtain ⟨_, vs, _, _, ⟨_, e⟩ | ⟨_, e⟩⟩ := argH_is ar q
    · exact .inr ⟨_, _, by rw [e]⟩
    · exact .inr ⟨_, _, by rw [e]⟩
theorem argH_ok (ar : ∀ a ∈ A, ArgOb h A a) : HOk P w (argH K h A) h := fun b u q => by
  obtain ⟨_, vs, h1, h2, ⟨e, rfl⟩ | ⟨e, rfl⟩⟩ := argH_is ar q
  · exact ⟨e, by rw [List.length_map]; exact h1, vs, _, vals_toV h2, e⟩
  · exact ⟨e, by rw [List.length_map]; exact h1, vs, vals_toV h2, _, e, rfl, _, rfl⟩
theorem seq_inj {c c' : Value} {vs us : List Value} (e : (some { cls := c, data := .seq vs.toArray } : Option Obj) = some { cls := c', data := .seq us.toArray }) : c = c' ∧ vs = us := by
  have e1 := Option.some.inj e
  have e2 : c = c' := congrArg Obj.cls e1
  have e3 : Data.seq vs.toArray = Data.seq us.toArray := congrArg Obj.data e1
  injection e3 with e4
  refine ⟨e2, ?_⟩
  have e5 := congrArg Array.toList e4
  simpa using e5
theorem argL (KX : K.In h) (ar : ∀ a ∈ A, ArgOb h A a) {a : Addr} {vs : List Value} (ha : a ∈ A) (e : h.get? a = some { cls := .type "list", data := .seq vs.toArray }) : (∀ u ∈ vs, OkU A u) ∧ SqL K (argH K h A) a (vs.map toV) := by
  obtain ⟨us, h1, h2, h3⟩ := ar a ha
  have hu : us = vs := by
    rcases h3 with q | q
    · rw [e] at q
      exact (seq_inj q).2.symm
    · rw [e] at q
      exact absurd (Value.type.inj (seq_inj q).1) (by decide)
  subst hu
  refine ⟨h2, ?_⟩
  cases hk : K.lookup a with
  | none => exact .inl (.inr ⟨_, by rw [argH_at ha hk e, hoOf_lst]⟩)
  | some o =>
    have e2 := KX a o hk
    rw [e] at e2
    obtain rfl := Option.some.inj e2
    exact .inr ⟨_, us.toArray, _, hk, rfl, rfl, rfl, by rw [List.size_toArray]; exact h1, by simpa using vals_toV h2⟩
theorem argT (KX : K.In h) (ar : ∀ a ∈ A, ArgOb h A a) {a : Addr} {vs : List Value} (ha : a ∈ A) (e : h.get? a = some { cls := .type "tuple", data := .seq vs.toArray }) : (∀ u ∈ vs, OkU A u) ∧ SqT K (argH K h A) a (vs.map toV) := by
  obtain ⟨us, h1, h2, h3⟩ := ar a ha
  have hu : us = vs := by
    rcases h3 with q | q
    · rw [e] at q
      exact absurd (Value.type.inj (seq_inj q).1) (by decide)
    · rw [e] at q
      exact (seq_inj q).2.symm
  subst hu
  refine ⟨h2, ?_⟩
  cases hk : K.lookup a with
  | none => exact .inl (.inr ⟨_, by rw [argH_at ha hk e, hoOf_tup]⟩)
  | some o =>
    have e2 := KX a o hk
    rw [e] at e2
    obtain rfl := Option.some.inj e2
    exact .inr ⟨_, us.toArray, _, hk, rfl, rfl, by rw [List.size_toArray]; exact h1, by simpa using vals_toV h2⟩
mutual
theorem dw_one {Pm : Params} (KX : K.In h) (ar : ∀ a ∈ A, ArgOb h A a) : ∀ (d : WData) (v : Value), Well Pm h v d → plW d = true → OkU A v → Dw K (argH K h A) (toV v) d
  | .none, _, x, _, _ => by
    cases x
    exact .non
  | .bool b, _, x, _, _ => by
    cases x
    exact .bl b
  | .int i, _, x, _, _ => by
    cases x
    exact .int i
  | .str s, _, x, _, _ => by
    cases x
    exact .str s
  | .bytes b, _, x, _, _ => by
    cases x
    have z := Dw.byt (K := K) (H := argH K h A) b.toArray
    exact z
  | .list ds, _, x, p, hu => by
    obtain ⟨a, vs, rfl, ho, hall⟩ := well_list x
    obtain ⟨h2, hs⟩ := argL KX ar hu ho
    exact .lst hs (dw_all KX ar ds _ hall p h2)
  | .tuple ds, _, x, p, hu => by
    obtain ⟨a, vs, rfl, ho, hall⟩ := well_tuple x
    obtain ⟨h2, hs⟩ := argT KX ar hu ho
    exact .tup hs (dw_all KX ar ds _ hall p h2)
  | .float _, _, _, p, _ => Bool.noConfusion (show false = true from p)
  | .dict _, _, _, p, _ => Bool.noConfusion (show false = true from p)
  | .bytearray _, _, _, p, _ => Bool.noConfusion (show false = true from p)
  | .set _, _, _, p, _ => Bool.noConfusion (show false = true from p)
  | .frozenset _, _, _, p, _ => Bool.noConfusion (show false = true from p)
  | .obj _ _, _, _, p, _ => Bool.noConfusion (show false = true from p)
theorem dw_all {Pm : Params} (KX : K.In h) (ar : ∀ a ∈ A, ArgOb h A a) : ∀ (ds : List WData) (vs : List Value), WellAll Pm h vs ds → plWs ds = true → (∀ u ∈ vs, OkU A u) → DwAll K (argH K h A) (vs.map toV) ds
  | [], _, x, _, _ => by
    cases x
    exact .nil
  | d :: ds, _, x, p, hu => by
    obtain ⟨v, vs, rfl, x1, x2⟩ := well_cons x
    have q : plW d = true ∧ plWs ds = true := Bool.and_eq_true_iff.mp p
    exact .cons (dw_one KX ar d v x1 q.1 (hu _ (List.mem_cons_self ..))) (dw_all KX ar ds vs x2 q.2 fun u m => hu u (List.mem_cons_of_mem _ m))
end
end
theorem spec_call {P : Program} {w : World} {K : PySem.W.Frag} {mg mb : Str → Option Value} {CX : CXT} {k : Nat} {fa : Addr} {fd : FuncData} {ps : List Str} {sp : Sp} {s₁ : Shared} {vals : List Value} {ds : List WData} {R : PySem.W.WRecords} {cl : Str → Option Addr} {d0 : WData}
    (KX : K.In s₁.heap) (hns : s₁.heap.Ns mainGlobals mg) (hb : s₁.heap.Ns builtinsNs mb) (hbb : ∀ x : Str, x ≠ "__name__" → mb x = bootBuiltins x) (hlim : s₁.heap.NoLimit) (hg : s₁.gens = #[])
    (hwl : WellAll w.params s₁.heap vals ds) (hpl : plWs ds = true) (hwt : ∀ d ∈ ds, d.weight ≤ 1048576) (hr : Room k callerA)
    (F : ∀ base : Heap, K.In base → base.Ns mainGlobals mg → FnOk P w K mg base CX k fa fd ps sp) (hbind : ∀ (s : Shared) (us : List Value), us.length = ps.length → BindsTo s fd ⟨us, []⟩ (ps.zip us)) (hlen : ds.length = ps.length)
    (hsp : ∀ (H : Hp) (xs : List V), OnlyF H → DwAll K H xs ds → sp xs H (fun v H' => Dw K H' v d0) fun _ _ _ => False)
    (hCX : ∀ H e s', CX [] H s₁ (fun _ _ _ => False) e s' → False) :
    codeAny (model P w) callerA (.call (.ref fa) ⟨vals, []⟩) (fun r s' => ∃ u as, r = .ok (.ret u) ∧ ReadsW R cl s'.heap u d0 as ∧ OldK s₁.heap s'.heap ∧ s'.os = s₁.os ∧ AllBare s'.gens) s₁ := by
  obtain ⟨A, ho, ar⟩ := area_all ds vals hwl hpl hwt
  have hO : OnlyF (argH K s₁.heap A) := argH_only ar
  have hok : HOk P w (argH K s₁.heap A) s₁.heap := argH_ok ar
  have hS := dw_all KX ar ds vals hwl hpl ho
  have hV := vals_toV ho
  have hK : ∀ b u, argH K s₁.heap A b = some u → K.lookup b = none := fun b u q => (argH_is ar q).1
  have noA : ∀ {b : Addr} {o : Obj} {es : Array DictEntry} {ep : Nat}, s₁.heap.get? b = some o → o.data = .dict es ep → argH K s₁.heap A b = none := fun {b o es ep} e d => by
    cases q : argH K s₁.heap A b with
    | none => rfl
    | some u =>
      obtain ⟨_, vs, _, _, ⟨e2, _⟩ | ⟨e2, _⟩⟩ := argH_is ar q
      · rw [e2] at e
        cases e
        have d' : Data.seq vs.toArray _ = Data.dict es ep := d
        cases d'
      · rw [e2] at e
        cases e
        have d' : Data.seq vs.toArray _ = Data.dict es ep := d
        cases d'
  generalize argH K s₁.heap A = H at hO hok hS hK noA
  have base_of : ∀ {b : Addr} {o : Obj}, s₁.heap.get? b = some o → H b = none → (hidT s₁.heap H).get? b = some o := fun e n => hidT_get e n
  have nsK : ∀ {b : Addr} {m : Str → Option Value}, s₁.heap.Ns b m → (hidT s₁.heap H).Ns b m := fun {b m} ⟨o, es, ep, e, d, r⟩ => ⟨o, es, ep, base_of e (noA e d), d, r⟩
  have nK : ∀ b o, K.lookup b = some o → H b = none := fun b o e => by
    cases q : H b with
    | none => rfl
    | some u =>
      rw [hK b u q] at e
      cases e
  have hKb : K.In (hidT s₁.heap H) := fun b o e => base_of (KX b o e) (nK b o e)
  have hM : Mod K mg (hidT s₁.heap H) := ⟨hKb, nsK hns, ⟨mb, nsK hb, hbb⟩, let ⟨mc, h1, h2⟩ := hlim; ⟨mc, nsK h1, h2⟩⟩
  have e0 : Env0 P w K mg (hidT s₁.heap H) callerA [] s₁ H := ⟨rfl, hM, fun b o e => of_hidT e, Nat.le_of_eq (hidT_size _ _), trivial, fun b hb => absurd (show b ∈ ([] : List Addr) from hb) (by simp), hok, .of_eq hg⟩
  have hl : vals.length = ps.length := by rw [wellAll_len hwl]; exact hlen
  refine codeAny_mono ((F _ hKb (nsK hns)).run callerA [] s₁ H ⟨vals, []⟩ vals (vals.map toV) _ _ hr e0 (hbind s₁ vals hl) hV (hsp H _ hO hS)) fun r s' x => ?_
  cases r with
  | error e => exact (hCX H e s' x).elim
  | ok fl =>
    cases fl with
    | next => exact False.elim x
    | brk => exact False.elim x
    | cont => exact False.elim x
    | ret u =>
      obtain ⟨v, H', os, bare, un, hok', r', q⟩ := x
      have kept : ∀ b o, s₁.heap.get? b = some o → s'.heap.get? b = some o := fun b o e => by
        cases q2 : H b with
        | none => exact un.keep b o e q2 (by intro z; exact absurd (show b ∈ ([] : List Addr) from z) (by simp)) (by simp)
        | some u2 =>
          rcases hO b with z | ⟨ob, u3, z⟩
          · rw [q2] at z
            cases z
          · have z2 := un.frzs b ob _ z
            obtain ⟨e1, _⟩ := hok b _ z
            obtain ⟨e2, _⟩ := hok' b _ z2
            rw [e] at e1
            cases e1
            exact e2
      have KX' : K.In s'.heap := fun b o e => kept b o (KX b o e)
      obtain ⟨as, hrd⟩ := Dw.reads (R := R) (cl := cl) hok' KX' d0 v u q r'
      exact ⟨u, as, rfl, hrd, OldK.of_keep kept, os, bare⟩
theorem layable_weight {ds : List WData} (h : WData.layableAll ds = true) : ∀ d ∈ ds, d.weight ≤ 1048576 := fun d hd =>
  (PySem.W.layableW_iff.mp (List.all_eq_true.mp h d hd)).2.2
theorem encAll_len : ∀ (cs : List Codec) (a : Codec.denoteAll cs), (Codec.encAll cs a).length = cs.length
  | [], _ => rfl
  | c :: cs, a => by
    show (Codec.encAll cs a.2).length + 1 = cs.length + 1
    rw [encAll_len cs a.2]
theorem walk_spec {r : OpenSpec} {k : Nat} {q : Program} {loose : List Str} {XP : (Str → Option Value) → Heap → Prop} {YP : World → Heap → Prop} {d : DefRec} {K : Params → PySem.W.Frag} {CX : World → CXT} {ps : List Str} {sp : World → Sp}
    (hwell : r.wellSaid = true) (hdf : d.params.defaults = []) (hlen : r.args.length = ps.length) (hr : Room k callerA)
    (hY : ∀ (w : World) (h : Heap), YP w h → (K w.params).In h)
    (F : ∀ (w : World) (mg : Str → Option Value) (fa : Addr) (h : Heap), YP w h → (K w.params).In h → h.Ns mainGlobals mg → mg d.name = some (.ref fa) →
      ∃ fd : FuncData, (∀ (s : Shared) (us : List Value), us.length = ps.length → BindsTo s fd ⟨us, []⟩ (ps.zip us)) ∧
        ∀ base : Heap, (K w.params).In base → base.Ns mainGlobals mg → FnOk r.prog w (K w.params) mg base (CX w) k fa fd ps (sp w))
    (hsp : ∀ (w : World) (H : Hp) (xs : List V) (a : Codec.denoteAll r.args), OnlyF H → Codec.withinAll r.args a = true → Codec.app r.args r.asked a = true → DwAll (K w.params) H xs (Codec.encAll r.args a) →
      sp w xs H (fun v H' => Dw (K w.params) H' v (r.ret.enc (Codec.app r.args r.f a))) fun _ _ _ => False)
    (hCX : ∀ (w : World) (H : Hp) (s : Shared) (e : Value) (s' : Shared), CX w [] H s (fun _ _ _ => False) e s' → False) :
    PySem.W.WalkOS q loose XP YP r d [] (fun f vs => PySem.call f vs) := by
  intro w s_0 s₁ mg mb G Y fa o pm cd doc dV kV ho hd hcd hD hmg hg args vals as hpre hlay hrd hwl hlo
  obtain ⟨a, e1, e2⟩ := PySem.W.os_pre_some hpre
  obtain ⟨e3, hwi⟩ := Codec.encAll_of_decAll r.args args a e1
  subst e3
  have KX := hY w _ Y
  obtain ⟨fd, hb, hF⟩ := F w mg fa _ Y KX G.T.g hmg
  refine PySem.W.enter_call (codeAny_mono (spec_call (R := []) (cl := classAt s_0.heap) (d0 := r.ret.enc (Codec.app r.args r.f a)) KX G.T.g G.T.b G.T.builtins G.T.nolimit hg hwl (pl_encAll _ _) (layable_weight hlay) hr hF hb (by rw [encAll_len]; exact hlen)
    (fun H xs hO hS => hsp w H xs a hO hwi e2 hS) fun H e s' => hCX w H s₁ e s') fun r' s' hq => ?_)
  obtain ⟨u, as', rfl, h1, h2, h3, h4⟩ := hq
  exact ⟨.inl ⟨u, _, as', rfl, fun _ => rfl, h1, (OpenSpec.post_iff hwell hwi _ _).mpr rfl, fun z => Bool.noConfusion (show false = true from z)⟩, h2, h3, h4⟩
theorem walk_specK {r : OpenSpec} {k : Nat} {q : Program} {loose : List Str} {XP : (Str → Option Value) → Heap → Prop} {YP : World → Heap → Prop} {d : DefRec} {K : Params → PySem.W.Frag} {CX : CXT} {ps : List Str} {sp : PySem.W.Frag → Sp}
    (hwell : r.wellSaid = true) (hdf : d.params.defaults = []) (hlen : r.args.length = ps.length) (hr : Room k callerA)
    (hY : ∀ (w : World) (h : Heap), YP w h → (K w.params).In h)
    (F : ∀ (w : World) (mg : Str → Option Value) (fa : Addr) (h : Heap), YP w h → (K w.params).In h → h.Ns mainGlobals mg → mg d.name = some (.ref fa) →
      ∃ fd : FuncData, (∀ (s : Shared) (us : List Value), us.length = ps.length → BindsTo s fd ⟨us, []⟩ (ps.zip us)) ∧
        ∀ base : Heap, (K w.params).In base → base.Ns mainGlobals mg → FnOk r.prog w (K w.params) mg base CX k fa fd ps (sp (K w.params)))
    (hsp : ∀ (K : PySem.W.Frag) (H : Hp) (xs : List V) (a : Codec.denoteAll r.args), OnlyF H → Codec.withinAll r.args a = true → Codec.app r.args r.asked a = true → DwAll K H xs (Codec.encAll r.args a) →
      sp K xs H (fun v H' => Dw K H' v (r.ret.enc (Codec.app r.args r.f a))) fun _ _ _ => False)
    (hCX : ∀ (H : Hp) (s : Shared) (e : Value) (s' : Shared), CX [] H s (fun _ _ _ => False) e s' → False) :
    PySem.W.WalkOS q loose XP YP r d [] (fun f vs => PySem.call f vs) :=
  walk_spec (K := K) (CX := fun _ => CX) (sp := fun w => sp (K w.params)) hwell hdf hlen hr hY F (fun w H xs a h1 h2 h3 h4 => hsp (K w.params) H xs a h1 h2 h3 h4) fun _ H s e s' => hCX H s e s'
end L2
end

end
section
set_option linter.all false
set_option Elab.async false
namespace RF
open Vbexac
/-! ### numbers, marks, sums -/
def mkr (id : Nat) : Nat := id / 100 - 1
theorem mkr_idOf {p n : Nat} (h : n ≤ 60) : mkr (idOf p n) = p := by unfold mkr idOf; omega
theorem idOf_inj {p n q m : Nat} (h : n ≤ 60) (h' : m ≤ 60) (e : idOf p n = idOf q m) : p = q ∧ n = m := by unfold idOf at e; omega
theorem is_iff {a b : Mark} : is a b = true ↔ a = b := by cases a <;> cases b <;> simp [is, markNumber]
theorem is_not {a b : Mark} (h : a ≠ b) : is a b = false := by
  cases q : is a b with
  | false => rfl
  | true => exact absurd (is_iff.mp q) h
theorem is_self (a : Mark) : is a a = true := is_iff.mpr rfl
def S (f : Entry → Nat) : List Entry → Nat
  | [] => 0
  | e :: r => f e + S f r
def T (f : Entry → Nat) : List Paper → Nat
  | [] => 0
  | x :: r => S f x.entries + T f r
theorem S_append (f : Entry → Nat) : ∀ a b : List Entry, S f (a ++ b) = S f a + S f b
  | [], b => by simp [S]
  | e :: r, b => by simp [S, S_append f r b]; omega
theorem S_congr {f g : Entry → Nat} : ∀ {l : List Entry}, (∀ e ∈ l, f e = g e) → S f l = S g l
  | [], _ => rfl
  | e :: r, h => by
    simp only [S]
    rw [h e (by simp), S_congr fun x hx => h x (by simp [hx])]
theorem S_map (f : Entry → Nat) (u : Entry → Entry) : ∀ l : List Entry, S f (l.map u) = S (fun e => f (u e)) l
  | [] => rfl
  | e :: r => by simp only [S, List.map_cons, S_map f u r]
theorem le_S {f : Entry → Nat} : ∀ {l : List Entry} {e : Entry}, e ∈ l → f e ≤ S f l
  | [], _, h => by simp at h
  | x :: r, e, h => by
    simp only [S]
    rcases List.mem_cons.mp h with rfl | h
    · omega
    · have := le_S (f := f) h; omega
theorem S_change {f g : Entry → Nat} {e : Entry} : ∀ {l : List Entry}, (l.map (·.id)).Nodup → e ∈ l → (∀ x ∈ l, x.id ≠ e.id → f x = g x) → S f l + g e = S g l + f e
  | [], _, h, _ => by simp at h
  | x :: r, nd, h, k => by
    simp only [S]
    rw [List.map_cons, List.nodup_cons] at nd
    rcases List.mem_cons.mp h with rfl | h
    · have q : S f r = S g r := S_congr fun y hy => k y (by simp [hy]) fun z => nd.1 (List.mem_map.mpr ⟨y, hy, z⟩)
      omega
    · have q := S_change nd.2 h fun y hy => k y (by simp [hy])
      have q2 := k x (by simp) fun z => nd.1 (List.mem_map.mpr ⟨e, h, z.symm⟩)
      omega
theorem T_congr {f g : Entry → Nat} : ∀ {l : List Paper}, (∀ x ∈ l, ∀ e ∈ x.entries, f e = g e) → T f l = T g l
  | [], _ => rfl
  | x :: r, h => by
    simp only [T]
    rw [S_congr (h x (by simp)), T_congr fun y hy => h y (by simp [hy])]
theorem T_set {f : Entry → Nat} {y : Paper} : ∀ {l : List Paper} {p : Nat} {x : Paper}, l[p]? = some x → T f (l.set p y) + S f x.entries = T f l + S f y.entries
  | [], p, x, h => by simp at h
  | z :: r, 0, x, h => by
    have e : z = x := by simpa using h
    subst e
    simp only [List.set_cons_zero, T]; omega
  | z :: r, p + 1, x, h => by
    have q := T_set (f := f) (y := y) (l := r) (p := p) (x := x) (by simpa using h)
    simp only [List.set_cons_succ, T]; omega
theorem le_T {f : Entry → Nat} : ∀ {l : List Paper} {x : Paper} {e : Entry}, x ∈ l → e ∈ x.entries → f e ≤ T f l
  | [], _, _, h, _ => by simp at h
  | y :: r, x, e, h, he => by
    simp only [T]
    rcases List.mem_cons.mp h with rfl | h
    · have := le_S (f := f) he; omega
    · have := le_T (f := f) h he; omega
/-! ### papers and tins of a state -/
theorem paper_some {s : St} {p : Nat} (h : p < s.papers.length) : s.papers[p]? = some (paper s p) := by
  unfold paper; rw [List.getD_eq_getElem?_getD, List.getElem?_eq_getElem h]; rfl
theorem paper_out {s : St} {p : Nat} (h : s.papers.length ≤ p) : paper s p = {} := by
  unfold paper; rw [List.getD_eq_getElem?_getD, List.getElem?_eq_none h]; rfl
theorem lt_of_mem {s : St} {p : Nat} {e : Entry} (h : e ∈ (paper s p).entries) : p < s.papers.length := by
  rcases Nat.lt_or_ge p s.papers.length with q | q
  · exact q
  · rw [paper_out q] at h; simp at h
theorem paper_set {s : St} {p q : Nat} {x : Paper} : paper (setPaper s p x) q = if q = p ∧ p < s.papers.length then x else paper s q := by
  unfold paper setPaper
  simp only [List.getD_eq_getElem?_getD]
  by_cases h : q = p
  · subst h
    by_cases l : q < s.papers.length
    · rw [if_pos ⟨rfl, l⟩, List.getElem?_set_self l]; rfl
    · rw [if_neg (fun z => l z.2), List.set_eq_of_length_le (by omega)]
  · rw [if_neg (fun z => h z.1), List.getElem?_set_ne (Ne.symm h)]
theorem mem_papers {s : St} {x : Paper} (h : x ∈ s.papers) : ∃ p, x = paper s p ∧ p < s.papers.length := by
  obtain ⟨p, hp, e⟩ := List.mem_iff_getElem.mp h
  refine ⟨p, ?_, hp⟩
  have := paper_some hp
  rw [List.getElem?_eq_getElem hp] at this
  exact (by rw [← e]; exact Option.some.inj this)
theorem tin_some {s : St} {d : Nat} (h : d < s.tins.length) : s.tins[d]? = some (tin s d) := by
  unfold tin; rw [List.getD_eq_getElem?_getD, List.getElem?_eq_getElem h]; rfl
theorem tin_set {s : St} {d c : Nat} {x : Tin} : tin (setTin s d x) c = if c = d ∧ d < s.tins.length then x else tin s c := by
  unfold tin setTin
  simp only [List.getD_eq_getElem?_getD]
  by_cases h : c = d
  · subst h
    by_cases l : c < s.tins.length
    · rw [if_pos ⟨rfl, l⟩, List.getElem?_set_self l]; rfl
    · rw [if_neg (fun z => l z.2), List.set_eq_of_length_le (by omega)]
  · rw [if_neg (fun z => h z.1), List.getElem?_set_ne (Ne.symm h)]
/-- the number was made -/
def Known (s : St) (id : Nat) : Prop := ∃ p n, p < s.papers.length ∧ 1 ≤ n ∧ n ≤ (paper s p).next ∧ id = idOf p n
structure MsgOk (s : St) (m : Message) : Prop where
  se : m.sender < s.papers.length
  to : m.to < s.papers.length
  ok : ((m.kind = 0 ∨ m.kind = 2) ∧ m.sender ≠ m.to ∧ mkr m.id = m.sender ∧ ∃ e ∈ (paper s m.sender).entries, e.id = m.id ∧ e.other = m.to ∧ e.depot = m.depot ∧ e.food = m.food) ∨
    (m.kind = 1 ∧ mkr m.id ≠ m.sender ∧ ∃ x ∈ (paper s m.sender).entries, x.id = m.id ∧ x.mark ≠ .refused) ∨
    (m.kind = 3 ∧ ∃ x ∈ (paper s m.sender).entries, x.id = m.id ∧ x.mark = .refused)
structure InvS (s : St) : Prop where
  pl : s.places.length = s.papers.length
  el : s.eaten.length = s.papers.length
  nx : ∀ p, (paper s p).next ≤ 60
  uq : ∀ p, ((paper s p).entries.map (·.id)).Nodup
  kn : ∀ p e, e ∈ (paper s p).entries → Known s e.id
  dp : ∀ p e, e ∈ (paper s p).entries → e.depot < s.tins.length
  ot : ∀ p e, e ∈ (paper s p).entries → e.other < s.papers.length
  pc : ∀ x ∈ s.places, x ≤ s.tins.length
  rf : ∀ p e, e ∈ (paper s p).entries → e.mark = .refused → mkr e.id ≠ p
  ou : ∀ p e, e ∈ (paper s p).entries → e.mark = .out → mkr e.id = p ∧ e.other ≠ p
  rc : ∀ q x, x ∈ (paper s q).entries → mkr x.id ≠ q → ∃ e ∈ (paper s (mkr x.id)).entries, e.id = x.id ∧ e.other = q ∧ e.depot = x.depot ∧ e.food = x.food ∧ (x.mark ≠ .refused → e.mark = .out ∨ e.mark = .gone)
  gv : ∀ p e, e ∈ (paper s p).entries → mkr e.id = p → e.other ≠ p → e.mark = .out ∨ ∃ x ∈ (paper s e.other).entries, x.id = e.id
  ms : ∀ m ∈ s.air, MsgOk s m
  lk : ∀ d id, id ∈ (tin s d).laid → Known s id
  uk : ∀ d id, id ∈ (tin s d).used → ∃ p x, x ∈ (paper s p).entries ∧ x.id = id ∧ x.depot = d ∧ (x.mark = .using ∨ x.mark = .used)
/-- one entry a number -/
theorem InvS.one {s : St} (I : InvS s) {p : Nat} {a b : Entry} (ha : a ∈ (paper s p).entries) (hb : b ∈ (paper s p).entries) (e : a.id = b.id) : a = b := by
  have nd := I.uq p
  generalize (paper s p).entries = l at ha hb nd
  induction l with
  | nil => simp at ha
  | cons x r ih =>
    rw [List.map_cons, List.nodup_cons] at nd
    rcases List.mem_cons.mp ha with ea | ha1
    · rcases List.mem_cons.mp hb with eb | hb1
      · rw [ea, eb]
      · exact absurd (List.mem_map.mpr ⟨b, hb1, by rw [← e, ea]⟩) nd.1
    · rcases List.mem_cons.mp hb with eb | hb1
      · exact absurd (List.mem_map.mpr ⟨a, ha1, by rw [e, eb]⟩) nd.1
      · exact ih ha1 hb1 nd.2
theorem InvS.find {s : St} (I : InvS s) {p : Nat} {e : Entry} (h : e ∈ (paper s p).entries) : entry s p e.id = some e := by
  cases q : entry s p e.id with
  | none =>
    have := List.find?_eq_none.mp q e h
    simp at this
  | some x =>
    have h1 := List.mem_of_find?_eq_some q
    have h2 := List.find?_some q
    rw [I.one h1 h (by simpa using h2)]
theorem entry_mem {s : St} {p id : Nat} {e : Entry} (h : entry s p id = some e) : e ∈ (paper s p).entries ∧ e.id = id :=
  ⟨List.mem_of_find?_eq_some h, by simpa using List.find?_some h⟩
theorem entry_none {s : St} {p id : Nat} (h : entry s p id = none) : ∀ e ∈ (paper s p).entries, e.id ≠ id := fun e he q => by
  have := List.find?_eq_none.mp h e he
  simp [q] at this
/-! ### what is alive or under way -/
def c (s : St) (d : Nat) (e : Entry) : Nat := if e.depot = d ∧ (alive s e = true ∨ underWay s e = true) then e.food else 0
def tot (s : St) (d : Nat) : Nat := T (c s d) s.papers
structure Inv (s : St) : Prop where
  st : InvS s
  co : ∀ d, d < s.tins.length → (tin s d).food = tot s d
theorem InvS.armed {s : St} (I : InvS s) (a : Option Nat) : InvS { s with armed := a } := ⟨I.pl, I.el, I.nx, I.uq, I.kn, I.dp, I.ot, I.pc, I.rf, I.ou, I.rc, I.gv, fun m h => ⟨(I.ms m h).se, (I.ms m h).to, (I.ms m h).ok⟩, I.lk, I.uk⟩
theorem Inv.armed {s : St} (I : Inv s) (a : Option Nat) : Inv { s with armed := a } := ⟨I.st.armed a, I.co⟩
/-- a party may count on what it holds -/
theorem Inv.enough {s : St} (I : Inv s) {p : Nat} {e : Entry} (h : e ∈ (paper s p).entries) (hc : alive s e = true) : e.food ≤ (tin s e.depot).food := by
  rw [I.co _ (I.st.dp p e h)]
  have q : c s e.depot e = e.food := by unfold c; rw [if_pos ⟨rfl, .inl hc⟩]
  rw [← q]
  have hp := lt_of_mem h
  exact le_T (List.mem_of_getElem? (paper_some hp)) h
end RF
end
section
set_option linter.all false
set_option Elab.async false
namespace RF
open Vbexac
/-! ### a mark is changed -/
def up (p id : Nat) (m : Mark) (q : Nat) (x : Entry) : Entry := if q = p ∧ x.id = id then { x with mark := m } else x
section
variable {p id q : Nat} {m : Mark} {x : Entry}
theorem up_id : (up p id m q x).id = x.id := by unfold up; split <;> rfl
theorem up_depot : (up p id m q x).depot = x.depot := by unfold up; split <;> rfl
theorem up_food : (up p id m q x).food = x.food := by unfold up; split <;> rfl
theorem up_other : (up p id m q x).other = x.other := by unfold up; split <;> rfl
theorem up_same (h : ¬ (q = p ∧ x.id = id)) : up p id m q x = x := by unfold up; rw [if_neg h]
theorem up_at (h : x.id = id) : up p id m p x = { x with mark := m } := by unfold up; rw [if_pos ⟨rfl, h⟩]
end
theorem mark_papers_len {s : St} {p id : Nat} {m : Mark} : (mark s p id m).papers.length = s.papers.length := by
  unfold mark setPaper; simp
theorem mark_paper {s : St} {p id q : Nat} {m : Mark} : (paper (mark s p id m) q).next = (paper s q).next ∧ (paper (mark s p id m) q).entries = (paper s q).entries.map (up p id m q) := by
  unfold mark
  rw [paper_set]
  by_cases h : q = p
  · subst h
    by_cases l : q < s.papers.length
    · rw [if_pos ⟨rfl, l⟩]
      refine ⟨rfl, ?_⟩
      show List.map _ _ = List.map _ _
      congr 1
      funext e
      unfold up
      by_cases z : e.id = id
      · rw [if_pos z, if_pos ⟨rfl, z⟩]
      · rw [if_neg z, if_neg (fun y => z y.2)]
    · rw [if_neg (fun z => l z.2), paper_out (by omega)]
      exact ⟨rfl, rfl⟩
  · rw [if_neg (fun z => h z.1)]
    refine ⟨rfl, ?_⟩
    have e : up p id m q = fun x => x := by funext x; exact up_same (fun z => h z.1)
    rw [e]; simp
theorem mark_next {s : St} {p id q : Nat} {m : Mark} : (paper (mark s p id m) q).next = (paper s q).next := mark_paper.1
theorem mark_mem {s : St} {p id q : Nat} {m : Mark} {x : Entry} : x ∈ (paper (mark s p id m) q).entries ↔ ∃ y ∈ (paper s q).entries, x = up p id m q y := by
  rw [mark_paper.2, List.mem_map]
  exact ⟨fun ⟨y, h, e⟩ => ⟨y, h, e.symm⟩, fun ⟨y, h, e⟩ => ⟨y, h, e.symm⟩⟩
theorem mark_known {s : St} {p id i : Nat} {m : Mark} : Known (mark s p id m) i ↔ Known s i := by
  unfold Known
  simp only [mark_next, mark_papers_len]
theorem mark_tin {s : St} {p id d : Nat} {m : Mark} : tin (mark s p id m) d = tin s d := rfl
theorem find_map {u : Entry → Entry} (hu : ∀ x, (u x).id = x.id) (id : Nat) : ∀ l : List Entry, (l.map u).find? (fun e => e.id == id) = (l.find? (fun e => e.id == id)).map u
  | [] => rfl
  | x :: r => by
    rw [List.map_cons, List.find?_cons, List.find?_cons, hu, find_map hu id r]
    cases x.id == id <;> rfl
theorem mark_entry {s : St} {p id q i : Nat} {m : Mark} : entry (mark s p id m) q i = (entry s q i).map (up p id m q) := by
  unfold entry
  rw [mark_paper.2, find_map (fun _ => up_id)]
/-- what a change of e's mark on p's paper to m must look to -/
structure MarkOk (s : St) (p : Nat) (e : Entry) (m : Mark) : Prop where
  mem : e ∈ (paper s p).entries
  nr : e.mark ≠ .refused
  mr : m ≠ .refused
  mo : m ≠ .out
  rc : ∀ q x, x ∈ (paper s q).entries → q ≠ p → x.id = e.id → mkr e.id = p → x.mark ≠ .refused → m = .gone
  gv : e.mark = .out → ∃ x ∈ (paper s e.other).entries, x.id = e.id
  us : (e.mark = .using ∨ e.mark = .used) → m = .using ∨ m = .used ∨ e.id ∉ (tin s e.depot).used
theorem InvS.mark {s : St} {p : Nat} {e : Entry} {m : Mark} (I : InvS s) (M : MarkOk s p e m) : InvS (mark s p e.id m) := by
  have isE : ∀ {q : Nat} {x : Entry}, x ∈ (paper s q).entries → q = p ∧ x.id = e.id → x = e := fun hx ⟨h1, h2⟩ => by
    subst h1; exact I.one hx M.mem h2
  refine ⟨?_, ?_, fun q => ?_, fun q => ?_, fun q x hx => ?_, fun q x hx => ?_, fun q x hx => ?_, I.pc, fun q x hx hm => ?_, fun q x hx hm => ?_, fun q x hx hk => ?_, fun q x hx hk ho => ?_, fun g hg => ?_, fun d i hi => ?_, fun d i hi => ?_⟩
  · rw [mark_papers_len]; exact I.pl
  · rw [mark_papers_len]; exact I.el
  · rw [mark_next]; exact I.nx q
  · rw [mark_paper.2, List.map_map]
    have z : ((fun x : Entry => x.id) ∘ up p e.id m q) = fun x => x.id := by funext x; exact up_id
    rw [z]; exact I.uq q
  · obtain ⟨y, hy, rfl⟩ := mark_mem.mp hx
    rw [up_id, mark_known]; exact I.kn q y hy
  · obtain ⟨y, hy, rfl⟩ := mark_mem.mp hx
    rw [up_depot]; exact I.dp q y hy
  · obtain ⟨y, hy, rfl⟩ := mark_mem.mp hx
    rw [up_other, mark_papers_len]; exact I.ot q y hy
  · obtain ⟨y, hy, rfl⟩ := mark_mem.mp hx
    by_cases z : q = p ∧ y.id = e.id
    · unfold up at hm; rw [if_pos z] at hm; exact absurd hm M.mr
    · rw [up_same z] at hm ⊢; exact I.rf q y hy hm
  · obtain ⟨y, hy, rfl⟩ := mark_mem.mp hx
    by_cases z : q = p ∧ y.id = e.id
    · unfold up at hm; rw [if_pos z] at hm; exact absurd hm M.mo
    · rw [up_same z] at hm ⊢; exact I.ou q y hy hm
  · obtain ⟨y, hy, rfl⟩ := mark_mem.mp hx
    rw [up_id] at hk ⊢
    obtain ⟨g, hg, e1, e2, e3, e4, e5⟩ := I.rc q y hy hk
    refine ⟨up p e.id m (mkr y.id) g, mark_mem.mpr ⟨g, hg, rfl⟩, by rw [up_id, e1], by rw [up_other, e2], by rw [up_depot, up_depot, e3], by rw [up_food, up_food, e4], fun hr => ?_⟩
    have hyr : y.mark ≠ .refused := by
      by_cases z : q = p ∧ y.id = e.id
      · rw [isE hy z]; exact M.nr
      · rw [up_same z] at hr; exact hr
    by_cases z : mkr y.id = p ∧ g.id = e.id
    · unfold up
      rw [if_pos z]
      refine .inr (M.rc q y hy (fun h => hk (by rw [h, z.1])) (by rw [← e1, z.2]) (by rw [← z.2, e1, z.1]) hyr)
    · rw [up_same z]; exact e5 hyr
  · obtain ⟨y, hy, rfl⟩ := mark_mem.mp hx
    rw [up_id] at hk
    rw [up_other] at ho ⊢
    have lift : (∃ x ∈ (paper s y.other).entries, x.id = y.id) → (up p e.id m q y).mark = .out ∨ ∃ x ∈ (paper (Vbexac.mark s p e.id m) y.other).entries, x.id = (up p e.id m q y).id := fun ⟨x, hx, ex⟩ =>
      .inr ⟨up p e.id m y.other x, mark_mem.mpr ⟨x, hx, rfl⟩, by rw [up_id, up_id, ex]⟩
    rcases I.gv q y hy hk ho with h | h
    · by_cases z : q = p ∧ y.id = e.id
      · have := isE hy z
        subst this
        exact lift (M.gv h)
      · rw [up_same z]; exact .inl h
    · exact lift h
  · obtain ⟨h1, h2, h3⟩ := I.ms g hg
    refine ⟨by rw [mark_papers_len]; exact h1, by rw [mark_papers_len]; exact h2, ?_⟩
    rcases h3 with ⟨k, a, b, x, hx, e1, e2, e3, e4⟩ | ⟨k, a, x, hx, e1, e2⟩ | ⟨k, x, hx, e1, e2⟩
    · exact .inl ⟨k, a, b, _, mark_mem.mpr ⟨x, hx, rfl⟩, by rw [up_id, e1], by rw [up_other, e2], by rw [up_depot, e3], by rw [up_food, e4]⟩
    · refine .inr (.inl ⟨k, a, _, mark_mem.mpr ⟨x, hx, rfl⟩, by rw [up_id, e1], ?_⟩)
      unfold up
      split
      · exact M.mr
      · exact e2
    · refine .inr (.inr ⟨k, _, mark_mem.mpr ⟨x, hx, rfl⟩, by rw [up_id, e1], ?_⟩)
      have z : ¬ (g.sender = p ∧ x.id = e.id) := fun z => M.nr (by rw [← isE hx z]; exact e2)
      rw [up_same z]; exact e2
  · rw [mark_known]; exact I.lk d i hi
  · obtain ⟨q, x, hx, e1, e2, e3⟩ := I.uk d i hi
    refine ⟨q, _, mark_mem.mpr ⟨x, hx, rfl⟩, by rw [up_id, e1], by rw [up_depot, e2], ?_⟩
    by_cases z : q = p ∧ x.id = e.id
    · have q1 := isE hx z
      subst q1
      unfold up; rw [if_pos z]
      rcases M.us e3 with h | h | h
      · exact .inl h
      · exact .inr h
      · rw [e2, e1] at h
        exact absurd hi h
    · rw [up_same z]; exact e3
theorem mark_c {s : St} {p d : Nat} {e : Entry} {m : Mark} (I : InvS s) (hm : e ∈ (paper s p).entries) (nr : e.mark ≠ .refused) (mr : m ≠ .refused) : c (mark s p e.id m) d = c s d := by
  funext x
  have h1 : alive (mark s p e.id m) x = alive s x := rfl
  have h2 : underWay (mark s p e.id m) x = underWay s x := by
    unfold underWay
    rw [mark_entry]
    cases q : entry s x.other x.id with
    | none => rfl
    | some y =>
      simp only [Option.map_some]
      congr 1
      by_cases z : x.other = p ∧ y.id = e.id
      · have q1 : y = e := by
          have := (entry_mem q).1
          rw [z.1] at this
          exact I.one this hm z.2
        subst q1
        unfold up
        rw [if_pos z]
        show is m .refused = is y.mark .refused
        rw [is_not nr, is_not mr]
      · rw [up_same z]
  unfold c
  rw [h1, h2]
theorem mark_tot {s : St} {p d : Nat} {e : Entry} {m : Mark} (I : InvS s) (hm : e ∈ (paper s p).entries) (nr : e.mark ≠ .refused) (mr : m ≠ .refused) :
    tot (mark s p e.id m) d + c s d e = tot s d + c s d { e with mark := m } := by
  have hp := lt_of_mem hm
  unfold tot
  rw [mark_c I hm nr mr]
  have h1 : (mark s p e.id m).papers = s.papers.set p { paper s p with entries := (paper s p).entries.map fun x => if x.id = e.id then { x with mark := m } else x } := rfl
  rw [h1]
  have h2 := T_set (f := c s d) (y := { paper s p with entries := (paper s p).entries.map fun x => if x.id = e.id then { x with mark := m } else x }) (paper_some hp)
  rw [S_map] at h2
  have h3 := S_change (f := fun x => c s d (if x.id = e.id then { x with mark := m } else x)) (g := c s d) (I.uq p) hm fun x _ hx => by rw [if_neg hx]
  rw [if_pos rfl] at h3
  omega
/-- where the change leaves the entry's weight -/
theorem Inv.mark {s : St} {p : Nat} {e : Entry} {m : Mark} (I : Inv s) (M : MarkOk s p e m) (hc : ∀ d, c s d { e with mark := m } = c s d e) : Inv (Vbexac.mark s p e.id m) := by
  refine ⟨I.st.mark M, fun d hd => ?_⟩
  have h1 := mark_tot (d := d) I.st M.mem M.nr M.mr
  rw [hc d] at h1
  have h2 : (tin (Vbexac.mark s p e.id m) d).food = tot s d := I.co d hd
  rw [h2]; omega
end RF
end
section
set_option linter.all false
set_option Elab.async false
namespace RF
open Vbexac
/-! ### sums where one entry changes its weight -/
theorem T_at {f g : Entry → Nat} : ∀ {l : List Paper} {r : Nat} {P : Paper}, l[r]? = some P → (∀ q x, l[q]? = some x → q ≠ r → ∀ e ∈ x.entries, f e = g e) → T f l + S g P.entries = T g l + S f P.entries
  | [], r, P, h, _ => by simp at h
  | z :: t, 0, P, h, k => by
    have e : z = P := by simpa using h
    subst e
    have q : T f t = T g t := T_congr fun x hx => by
      obtain ⟨i, hi, e⟩ := List.mem_iff_getElem.mp hx
      exact k (i + 1) x (by rw [List.getElem?_cons_succ, List.getElem?_eq_getElem hi, e]) (by omega)
    simp only [T]; omega
  | z :: t, r + 1, P, h, k => by
    have q := T_at (f := f) (g := g) (l := t) (r := r) (P := P) (by simpa using h) fun i x hi hn => k (i + 1) x (by simpa using hi) (by omega)
    have q2 := S_congr (k 0 z rfl (by omega))
    simp only [T]; omega
/-- the sums over two states with the same papers, where e on p's paper alone weighs otherwise -/
theorem T_one {s : St} {f g : Entry → Nat} {p : Nat} {e : Entry} (I : InvS s) (h : e ∈ (paper s p).entries) (k : ∀ q x, x ∈ (paper s q).entries → ¬ (q = p ∧ x.id = e.id) → f x = g x) : T f s.papers + g e = T g s.papers + f e := by
  have hp := lt_of_mem h
  have h1 := T_at (f := f) (g := g) (paper_some hp) fun q x hx hn y hy => by
    have hq : q < s.papers.length := (List.getElem?_eq_some_iff.mp hx).1
    have := paper_some hq
    rw [this] at hx
    cases hx
    exact k q y hy (fun z => hn z.1)
  have h2 := S_change (f := f) (g := g) (I.uq p) h fun x hx hn => k p x hx (fun z => hn z.2)
  omega
/-- one number on two papers: the maker gave it to the other -/
theorem InvS.two {s : St} (I : InvS s) {p q : Nat} {a b : Entry} (ha : a ∈ (paper s p).entries) (hb : b ∈ (paper s q).entries) (n : p ≠ q) (e : a.id = b.id) :
    (mkr a.id = p ∧ a.other = q ∧ (b.mark = .refused ∨ a.mark = .out ∨ a.mark = .gone)) ∨ (mkr a.id = q ∧ b.other = p ∧ (a.mark = .refused ∨ b.mark = .out ∨ b.mark = .gone)) := by
  have nrm : ∀ m : Mark, m = .refused ∨ m ≠ .refused := fun m => by cases m <;> simp
  by_cases hp : mkr a.id = p
  · obtain ⟨g, hg, e1, e2, _, _, e5⟩ := I.rc q b hb (by rw [← e, hp]; exact n)
    rw [← e, hp] at hg
    have : g = a := I.one hg ha (by rw [e1, e])
    subst this
    refine .inl ⟨hp, e2, ?_⟩
    rcases nrm b.mark with z | z
    · exact .inl z
    · exact .inr (e5 z)
  · obtain ⟨g, hg, e1, e2, _, _, e5⟩ := I.rc p a ha hp
    by_cases hq : mkr a.id = q
    · rw [hq] at hg
      have : g = b := I.one hg hb (by rw [e1, e])
      subst this
      refine .inr ⟨hq, e2, ?_⟩
      rcases nrm a.mark with z | z
      · exact .inl z
      · exact .inr (e5 z)
    · obtain ⟨g', hg', e1', e2', _⟩ := I.rc q b hb (by rw [← e]; exact hq)
      rw [← e] at hg'
      have : g = g' := I.one hg hg' (by rw [e1, e1', e])
      subst this
      exact absurd (e2.symm.trans e2') n
/-! ### an entry is written -/
def add (s : St) (p n : Nat) (e : Entry) : St := setPaper s p { next := n, entries := (paper s p).entries ++ [e] }
theorem write_add (s : St) (p : Nat) (e : Entry) : write s p e = add s p (paper s p).next e := rfl
theorem writeNew_add (s : St) (p depot food : Nat) (m : Mark) (other : Nat) : writeNew s p depot food m other = add s p ((paper s p).next + 1) { id := nextId s p, depot := depot, food := food, mark := m, other := other } := rfl
theorem add_len {s : St} {p n : Nat} {e : Entry} : (add s p n e).papers.length = s.papers.length := by unfold add setPaper; simp
theorem add_tin {s : St} {p n d : Nat} {e : Entry} : tin (add s p n e) d = tin s d := rfl
structure AddOk (s : St) (p n : Nat) (e : Entry) : Prop where
  lt : p < s.papers.length
  ge : (paper s p).next ≤ n
  le : n ≤ 60
  fr : ∀ x ∈ (paper s p).entries, x.id ≠ e.id
  kn : Known s e.id ∨ (∃ k, 1 ≤ k ∧ k ≤ n ∧ e.id = idOf p k)
  dp : e.depot < s.tins.length
  ot : e.other < s.papers.length
  rf : e.mark = .refused → mkr e.id ≠ p
  ou : e.mark = .out → mkr e.id = p ∧ e.other ≠ p
  rc : mkr e.id ≠ p → ∃ g ∈ (paper s (mkr e.id)).entries, g.id = e.id ∧ g.other = p ∧ g.depot = e.depot ∧ g.food = e.food ∧ (e.mark ≠ .refused → g.mark = .out ∨ g.mark = .gone)
  gv : mkr e.id = p → e.other ≠ p → e.mark = .out
section
variable {s : St} {p n : Nat} {e : Entry}
theorem add_paper (hp : p < s.papers.length) {q : Nat} : paper (add s p n e) q = if q = p then { next := n, entries := (paper s p).entries ++ [e] } else paper s q := by
  unfold add
  rw [paper_set]
  by_cases h : q = p
  · rw [if_pos ⟨h, hp⟩, if_pos h]
  · rw [if_neg (fun z => h z.1), if_neg h]
theorem add_mem (hp : p < s.papers.length) {q : Nat} {x : Entry} : x ∈ (paper (add s p n e) q).entries ↔ x ∈ (paper s q).entries ∨ (q = p ∧ x = e) := by
  rw [add_paper hp]
  by_cases h : q = p
  · subst h; rw [if_pos rfl]; simp
  · rw [if_neg h]; simp [h]
theorem add_known (A : AddOk s p n e) {i : Nat} (h : Known s i) : Known (add s p n e) i := by
  obtain ⟨r, k, h1, h2, h3, h4⟩ := h
  refine ⟨r, k, by rw [add_len]; exact h1, h2, ?_, h4⟩
  rw [add_paper A.lt]
  by_cases z : r = p
  · subst z; rw [if_pos rfl]; exact Nat.le_trans h3 A.ge
  · rw [if_neg z]; exact h3
theorem InvS.add (I : InvS s) (A : AddOk s p n e) : InvS (add s p n e) := by
  have hp := A.lt
  have old : ∀ {q : Nat} {x : Entry}, x ∈ (paper s q).entries → x ∈ (paper (RF.add s p n e) q).entries := fun h => (add_mem hp).mpr (.inl h)
  refine ⟨by rw [add_len]; exact I.pl, by rw [add_len]; exact I.el, fun q => ?_, fun q => ?_, fun q x hx => ?_, fun q x hx => ?_, fun q x hx => ?_, I.pc, fun q x hx hm => ?_, fun q x hx hm => ?_, fun q x hx hk => ?_, fun q x hx hk ho => ?_, fun g hg => ?_, fun d i hi => ?_, fun d i hi => ?_⟩
  · rw [add_paper hp]
    by_cases z : q = p
    · rw [if_pos z]; exact A.le
    · rw [if_neg z]; exact I.nx q
  · rw [add_paper hp]
    by_cases z : q = p
    · rw [if_pos z]
      show (List.map _ ((paper s p).entries ++ [e])).Nodup
      rw [List.map_append, List.nodup_append]
      refine ⟨I.uq p, by simp, fun a ha b hb => ?_⟩
      obtain ⟨x, hx, rfl⟩ := List.mem_map.mp ha
      simp at hb
      subst hb
      exact A.fr x hx
    · rw [if_neg z]; exact I.uq q
  · rcases (add_mem hp).mp hx with h | ⟨rfl, rfl⟩
    · exact add_known A (I.kn q x h)
    · rcases A.kn with h | ⟨k, h1, h2, h3⟩
      · exact add_known A h
      · exact ⟨q, k, by rw [add_len]; exact hp, h1, by rw [add_paper hp, if_pos rfl]; exact h2, h3⟩
  · rcases (add_mem hp).mp hx with h | ⟨rfl, rfl⟩
    · exact I.dp q x h
    · exact A.dp
  · rw [add_len]
    rcases (add_mem hp).mp hx with h | ⟨rfl, rfl⟩
    · exact I.ot q x h
    · exact A.ot
  · rcases (add_mem hp).mp hx with h | ⟨rfl, rfl⟩
    · exact I.rf q x h hm
    · exact A.rf hm
  · rcases (add_mem hp).mp hx with h | ⟨rfl, rfl⟩
    · exact I.ou q x h hm
    · exact A.ou hm
  · rcases (add_mem hp).mp hx with h | ⟨rfl, rfl⟩
    · obtain ⟨g, hg, r⟩ := I.rc q x h hk
      exact ⟨g, old hg, r⟩
    · obtain ⟨g, hg, r⟩ := A.rc hk
      exact ⟨g, old hg, r⟩
  · rcases (add_mem hp).mp hx with h | ⟨rfl, rfl⟩
    · rcases I.gv q x h hk ho with z | ⟨y, hy, e1⟩
      · exact .inl z
      · exact .inr ⟨y, old hy, e1⟩
    · exact .inl (A.gv hk ho)
  · obtain ⟨h1, h2, h3⟩ := I.ms g hg
    refine ⟨by rw [add_len]; exact h1, by rw [add_len]; exact h2, ?_⟩
    rcases h3 with ⟨k, a, b, x, hx, r⟩ | ⟨k, a, x, hx, r⟩ | ⟨k, x, hx, r⟩
    · exact .inl ⟨k, a, b, x, old hx, r⟩
    · exact .inr (.inl ⟨k, a, x, old hx, r⟩)
    · exact .inr (.inr ⟨k, x, old hx, r⟩)
  · exact add_known A (I.lk d i hi)
  · obtain ⟨q, x, hx, r⟩ := I.uk d i hi
    exact ⟨q, x, old hx, r⟩
theorem add_entry (A : AddOk s p n e) (q i : Nat) : entry (add s p n e) q i = if q = p ∧ i = e.id then some e else entry s q i := by
  unfold entry
  rw [add_paper A.lt]
  by_cases z : q = p
  · subst z
    rw [if_pos rfl]
    show List.find? _ ((paper s q).entries ++ [e]) = _
    rw [List.find?_append]
    by_cases y : i = e.id
    · subst y
      rw [if_pos ⟨rfl, rfl⟩]
      have h : (paper s q).entries.find? (fun x => x.id == e.id) = none := List.find?_eq_none.mpr fun x hx => by simpa using A.fr x hx
      rw [h]; simp
    · rw [if_neg (fun z => y z.2)]
      have h : List.find? (fun x => x.id == i) [e] = none := by simp [Ne.symm y]
      rw [h]; simp
  · rw [if_neg z, if_neg (fun y => z y.1)]
/-- an entry's weight, behind the writing -/
theorem add_c (A : AddOk s p n e) (d : Nat) {x : Entry} (h : x.mark = .out → x.other = p → x.id = e.id → e.mark = .refused) : c (add s p n e) d x = c s d x := by
  have h1 : alive (add s p n e) x = alive s x := rfl
  have h2 : underWay (add s p n e) x = underWay s x := by
    unfold underWay
    rw [add_entry A]
    by_cases z : x.other = p ∧ x.id = e.id
    · rw [if_pos z]
      by_cases w : x.mark = .out
      · have hn : entry s x.other x.id = none := by
          unfold entry
          refine List.find?_eq_none.mpr fun y hy => ?_
          rw [z.1] at hy
          simpa [z.2] using A.fr y hy
        rw [hn]
        show (_ && is e.mark .refused) = (_ && true)
        rw [h w z.1 z.2, is_self]
      · rw [is_not w]; rfl
    · rw [if_neg z]
  unfold c
  rw [h1, h2]
theorem add_T (A : AddOk s p n e) (f : Entry → Nat) : T f (add s p n e).papers = T f s.papers + f e := by
  have h := T_set (f := f) (y := { next := n, entries := (paper s p).entries ++ [e] }) (paper_some A.lt)
  show T f (s.papers.set p _) = _
  rw [S_append] at h
  simp only [S] at h
  omega
/-- nobody waits for it -/
theorem add_tot (A : AddOk s p n e) (d : Nat) (h : ∀ q x, x ∈ (paper s q).entries → x.mark = .out → x.other = p → x.id = e.id → e.mark = .refused) : tot (add s p n e) d = tot s d + c (add s p n e) d e := by
  unfold tot
  rw [add_T A]
  congr 1
  refine T_congr fun x hx y hy => ?_
  obtain ⟨q, rfl, _⟩ := mem_papers hx
  exact add_c A d (h q y hy)
/-- g on r's paper was under way to it -/
theorem add_tot1 (I : InvS s) (A : AddOk s p n e) (d : Nat) {r : Nat} {g : Entry} (hg : g ∈ (paper s r).entries) (go : g.mark = .out) (gi : g.id = e.id) :
    tot (add s p n e) d + c s d g = tot s d + c (add s p n e) d g + c (add s p n e) d e := by
  unfold tot
  rw [add_T A]
  have h := T_one (f := c (add s p n e) d) (g := c s d) I hg fun q x hx hn => add_c A d fun h1 h2 h3 => by
    have e1 := (I.ou q x hx h1).1
    have e2 := (I.ou r g hg go).1
    exact absurd ⟨by rw [← e1, ← e2, h3, gi], by rw [h3, gi]⟩ hn
  omega
end
/-! ### a message is sent -/
theorem InvS.send {s : St} {m : Message} (I : InvS s) (M : MsgOk s m) : InvS (send s m) := by
  refine ⟨I.pl, I.el, I.nx, I.uq, I.kn, I.dp, I.ot, I.pc, I.rf, I.ou, I.rc, I.gv, fun g hg => ?_, I.lk, I.uk⟩
  have hg' : g ∈ s.air ++ [m] := hg
  rcases List.mem_append.mp hg' with h | h
  · obtain ⟨a, b, k⟩ := I.ms g h
    exact ⟨a, b, k⟩
  · simp at h
    subst h
    exact ⟨M.se, M.to, M.ok⟩
theorem Inv.send {s : St} {m : Message} (I : Inv s) (M : MsgOk s m) : Inv (Vbexac.send s m) := ⟨I.st.send M, I.co⟩
/-! ### come -/
theorem Inv.come {s : St} (I : Inv s) {p d : Nat} (hd : d ≤ s.tins.length) : Inv { s with places := s.places.set p d } := by
  refine ⟨⟨by show (s.places.set p d).length = _; rw [List.length_set]; exact I.st.pl, I.st.el, I.st.nx, I.st.uq, I.st.kn, I.st.dp, I.st.ot, fun x hx => ?_, I.st.rf, I.st.ou, I.st.rc, I.st.gv, fun m h => ⟨(I.st.ms m h).se, (I.st.ms m h).to, (I.st.ms m h).ok⟩, I.st.lk, I.st.uk⟩, I.co⟩
  rcases List.mem_or_eq_of_mem_set hx with h | h
  · exact I.st.pc x h
  · rw [h]; exact hd
end RF
end
section
set_option linter.all false
set_option Elab.async false
namespace RF
open Vbexac
/-! ### the cutting off -/
def cut (s : St) : Bool × St := match s.armed with
  | none => (false, s)
  | some 0 => (true, { s with armed := none })
  | some (k + 1) => (false, { s with armed := some k })
theorem cut_eq (s : St) : ∃ a, (cut s).2 = { s with armed := a } := by
  unfold cut
  cases h : s.armed with
  | none => exact ⟨none, by obtain ⟨a, b, c, d, e, f, g, i⟩ := s; simp at h; subst h; rfl⟩
  | some k => cases k with
    | zero => exact ⟨none, rfl⟩
    | succ k => exact ⟨some k, rfl⟩
theorem Inv.cut {s : St} (I : Inv s) : Inv (RF.cut s).2 := by
  obtain ⟨a, e⟩ := cut_eq s
  rw [e]; exact I.armed a
theorem steps_nil (s : St) : steps s [] = (s, true) := rfl
theorem steps_cons (s : St) (f : St → St) (r : List (St → St)) : steps s (f :: r) = if (cut s).1 = true then ((cut s).2, false) else steps (f (cut s).2) r := by
  unfold cut
  rw [steps]
  cases s.armed with
  | none => rfl
  | some k => cases k <;> rfl
/-! ### what weighs -/
section
variable {s : St} {d : Nat} {e : Entry}
theorem alive_iff : alive s e = true ↔ e.mark = .held ∨ (e.mark = .laying ∧ e.id ∈ (tin s e.depot).laid) ∨ (e.mark = .using ∧ e.id ∉ (tin s e.depot).used) := by
  unfold alive
  simp [is_iff]
theorem underWay_iff : underWay s e = true ↔ e.mark = .out ∧ (entry s e.other e.id = none ∨ ∃ x, entry s e.other e.id = some x ∧ x.mark = .refused) := by
  unfold underWay
  rw [Bool.and_eq_true, is_iff]
  cases entry s e.other e.id <;> simp [is_iff]
theorem c_pos (h : alive s e = true ∨ underWay s e = true) : c s d e = if e.depot = d then e.food else 0 := by
  unfold c; by_cases z : e.depot = d
  · rw [if_pos ⟨z, h⟩, if_pos z]
  · rw [if_neg (fun y => z y.1), if_neg z]
theorem c_zero (h : ¬ (alive s e = true ∨ underWay s e = true)) : c s d e = 0 := by
  unfold c; rw [if_neg (fun y => h y.2)]
theorem c_held (h : e.mark = .held) : c s d e = if e.depot = d then e.food else 0 := c_pos (.inl (alive_iff.mpr (.inl h)))
theorem c_none (h : e.mark = .dead ∨ e.mark = .gone ∨ e.mark = .used ∨ e.mark = .refused) : c s d e = 0 := c_zero fun z => by
  rw [alive_iff, underWay_iff] at z
  rcases h with h | h | h | h <;> rw [h] at z <;> simp at z
theorem c_laying (h : e.mark = .laying) (k : e.id ∉ (tin s e.depot).laid) : c s d e = 0 := c_zero fun z => by
  rw [alive_iff, underWay_iff, h] at z
  simp [k] at z
theorem c_laid (h : e.mark = .laying) (k : e.id ∈ (tin s e.depot).laid) : c s d e = if e.depot = d then e.food else 0 := c_pos (.inl (alive_iff.mpr (.inr (.inl ⟨h, k⟩))))
theorem c_using (h : e.mark = .using) (k : e.id ∉ (tin s e.depot).used) : c s d e = if e.depot = d then e.food else 0 := c_pos (.inl (alive_iff.mpr (.inr (.inr ⟨h, k⟩))))
theorem c_eaten (h : e.mark = .using) (k : e.id ∈ (tin s e.depot).used) : c s d e = 0 := c_zero fun z => by
  rw [alive_iff, underWay_iff, h] at z
  simp [k] at z
theorem c_way (h : e.mark = .out) (k : entry s e.other e.id = none ∨ ∃ x, entry s e.other e.id = some x ∧ x.mark = .refused) : c s d e = if e.depot = d then e.food else 0 := c_pos (.inr (underWay_iff.mpr ⟨h, k⟩))
theorem c_got {x : Entry} (h : e.mark = .out) (k : entry s e.other e.id = some x) (n : x.mark ≠ .refused) : c s d e = 0 := c_zero fun z => by
  rw [alive_iff, underWay_iff, h, k] at z
  simp [n] at z
end
/-! ### new numbers -/
theorem InvS.fresh {s : St} (I : InvS s) {p : Nat} (hn : (paper s p).next + 1 ≤ 60) {i : Nat} (h : Known s i) : i ≠ nextId s p := by
  obtain ⟨r, k, h1, h2, h3, h4⟩ := h
  intro e
  rw [h4] at e
  have := idOf_inj (Nat.le_trans h3 (I.nx r)) hn e
  obtain ⟨rfl, rfl⟩ := this
  omega
theorem mkr_next {s : St} {p : Nat} (hn : (paper s p).next + 1 ≤ 60) : mkr (nextId s p) = p := mkr_idOf hn
/-- the entry that writeNew writes -/
def newE (s : St) (p depot food : Nat) (m : Mark) (other : Nat) : Entry := { id := nextId s p, depot := depot, food := food, mark := m, other := other }
theorem writeNew_ok {s : St} (I : InvS s) {p depot food : Nat} {m : Mark} {other : Nat} (hp : p < s.papers.length) (hn : (paper s p).next + 1 ≤ 60) (hd : depot < s.tins.length) (ho : other < s.papers.length)
    (hm : m ≠ .refused) (h1 : m = .out → other ≠ p) (h2 : other ≠ p → m = .out) : AddOk s p ((paper s p).next + 1) (newE s p depot food m other) where
  lt := hp
  ge := Nat.le_succ _
  le := hn
  fr := fun x hx => I.fresh hn (I.kn p x hx)
  kn := .inr ⟨_, Nat.succ_le_succ (Nat.zero_le _), Nat.le_refl _, rfl⟩
  dp := hd
  ot := ho
  rf := fun h => absurd h hm
  ou := fun h => ⟨mkr_next hn, h1 h⟩
  rc := fun h => absurd (mkr_next hn) h
  gv := fun _ h => h2 h
theorem writeNew_tot {s : St} (I : InvS s) {p depot food : Nat} {m : Mark} {other : Nat} (A : AddOk s p ((paper s p).next + 1) (newE s p depot food m other)) (d : Nat) :
    tot (writeNew s p depot food m other) d = tot s d + c (writeNew s p depot food m other) d (newE s p depot food m other) := by
  rw [writeNew_add]
  refine add_tot A d fun q x hx _ _ e => ?_
  exact absurd e (I.fresh A.le (I.kn q x hx))
/-! ### the marks that may be changed -/
theorem InvS.rcOf {s : St} (I : InvS s) {p : Nat} {e : Entry} {m : Mark} (h : e ∈ (paper s p).entries) (n1 : e.mark ≠ .out) (n2 : e.mark ≠ .gone) :
    ∀ q x, x ∈ (paper s q).entries → q ≠ p → x.id = e.id → mkr e.id = p → x.mark ≠ .refused → m = .gone := fun q x hx hq hi hk hr => by
  rcases I.two h hx (Ne.symm hq) hi.symm with ⟨_, _, z | z | z⟩ | ⟨z, _⟩
  · exact absurd z hr
  · exact absurd z n1
  · exact absurd z n2
  · exact absurd (z.symm.trans hk) hq
/-- from held, laying or using, where nothing is left to be feared of the tin's used -/
theorem InvS.markOk {s : St} (I : InvS s) {p : Nat} {e : Entry} {m : Mark} (h : e ∈ (paper s p).entries) (k : e.mark = .held ∨ e.mark = .laying ∨ (e.mark = .using ∧ (m = .used ∨ e.id ∉ (tin s e.depot).used))) (mr : m ≠ .refused) (mo : m ≠ .out) : MarkOk s p e m where
  mem := h
  nr := by rcases k with k | k | k <;> first | rw [k]; simp | rw [k.1]; simp
  mr := mr
  mo := mo
  rc := I.rcOf h (by rcases k with k | k | k <;> first | rw [k]; simp | rw [k.1]; simp) (by rcases k with k | k | k <;> first | rw [k]; simp | rw [k.1]; simp)
  gv := fun z => by rcases k with k | k | k <;> first | rw [k] at z; simp at z | rw [k.1] at z; simp at z
  us := fun z => by
    rcases k with k | k | ⟨k, w | w⟩
    · rw [k] at z; simp at z
    · rw [k] at z; simp at z
    · exact .inr (.inl w)
    · exact .inr (.inr w)
/-- what is held has not been used -/
theorem InvS.unused {s : St} (I : InvS s) {p : Nat} {e : Entry} (h : e ∈ (paper s p).entries) (k : e.mark = .held ∨ e.mark = .laying) (d : Nat) : e.id ∉ (tin s d).used := fun z => by
  obtain ⟨q, x, hx, e1, _, e3⟩ := I.uk d _ z
  by_cases hq : q = p
  · subst hq
    have := I.one hx h e1
    subst this
    rcases k with k | k <;> rw [k] at e3 <;> simp at e3
  · rcases I.two h hx (Ne.symm hq) e1.symm with ⟨_, _, z | z | z⟩ | ⟨_, _, z | z | z⟩
    · rw [z] at e3; simp at e3
    · rw [z] at k; simp at k
    · rw [z] at k; simp at k
    · rw [z] at k; simp at k
    · rw [z] at e3; simp at e3
    · rw [z] at e3; simp at e3
/-! ### lay -/
theorem Inv.lay1 {s : St} (I : Inv s) {p d n : Nat} (hp : p < s.papers.length) (hn : (paper s p).next + 1 ≤ 60) (hd : d < s.tins.length) : Inv (writeNew s p d n .laying p) := by
  have A := writeNew_ok (food := n) (m := .laying) I.st hp hn hd hp (by simp) (by simp) (fun h => absurd rfl h)
  refine ⟨by rw [writeNew_add]; exact I.st.add A, fun d' hd' => ?_⟩
  rw [writeNew_tot I.st A, c_laying rfl]
  · exact I.co d' hd'
  · exact fun z => I.st.fresh hn (I.st.lk _ _ z) rfl
def putIn (s : St) (d n id : Nat) : St := { setTin s d { tin s d with food := (tin s d).food + n, laid := (tin s d).laid ++ [id] } with laid := s.laid + n }
theorem putIn_tin {s : St} {d n id c : Nat} (hd : d < s.tins.length) : tin (putIn s d n id) c = if c = d then { tin s d with food := (tin s d).food + n, laid := (tin s d).laid ++ [id] } else tin s c := by
  show tin (setTin s d _) c = _
  rw [tin_set]
  by_cases z : c = d
  · rw [if_pos ⟨z, hd⟩, if_pos z]
  · rw [if_neg (fun y => z y.1), if_neg z]
theorem Inv.lay2 {s : St} (I : Inv s) {p : Nat} {e : Entry} (h : e ∈ (paper s p).entries) (hm : e.mark = .laying) (hn : e.id ∉ (tin s e.depot).laid) : Inv (putIn s e.depot e.food e.id) := by
  have hd := I.st.dp p e h
  have tl : ∀ d, (tin (putIn s e.depot e.food e.id) d).used = (tin s d).used := fun d => by
    rw [putIn_tin hd]; split
    · rename_i z; rw [z]
    · rfl
  refine ⟨⟨I.st.pl, I.st.el, I.st.nx, I.st.uq, I.st.kn, fun q x hx => ?_, I.st.ot, fun x hx => ?_, I.st.rf, I.st.ou, I.st.rc, I.st.gv, fun m hm => ⟨(I.st.ms m hm).se, (I.st.ms m hm).to, (I.st.ms m hm).ok⟩, fun d i hi => ?_, fun d i hi => ?_⟩, fun d hd' => ?_⟩
  · show _ < (s.tins.set _ _).length
    rw [List.length_set]; exact I.st.dp q x hx
  · show _ ≤ (s.tins.set _ _).length
    rw [List.length_set]; exact I.st.pc x hx
  · rw [putIn_tin hd] at hi
    show Known s i
    split at hi
    · rcases List.mem_append.mp (show i ∈ (tin s e.depot).laid ++ [e.id] from hi) with z | z
      · exact I.st.lk _ _ z
      · simp at z; rw [z]; exact I.st.kn p e h
    · exact I.st.lk _ _ hi
  · rw [tl] at hi; exact I.st.uk d i hi
  · have hd2 : d < s.tins.length := by
      have : d < (s.tins.set e.depot { tin s e.depot with food := (tin s e.depot).food + e.food, laid := (tin s e.depot).laid ++ [e.id] }).length := hd'
      rwa [List.length_set] at this
    have h1 := T_one (f := c (putIn s e.depot e.food e.id) d) (g := c s d) I.st h fun q x hx hn => by
      have a : alive (putIn s e.depot e.food e.id) x = alive s x := by
        rw [Bool.eq_iff_iff, alive_iff, alive_iff, tl]
        have : x.mark = .laying → (x.id ∈ (tin (putIn s e.depot e.food e.id) x.depot).laid ↔ x.id ∈ (tin s x.depot).laid) := fun hl => by
          rw [putIn_tin hd]
          split
          · rename_i z
            show x.id ∈ (tin s e.depot).laid ++ [e.id] ↔ _
            rw [z, List.mem_append]
            constructor
            · rintro (y | y)
              · exact y
              · simp at y
                by_cases hq : q = p
                · exact absurd ⟨hq, y⟩ hn
                · rcases I.st.two h hx (Ne.symm hq) y.symm with ⟨_, _, w | w | w⟩ | ⟨_, _, w | w | w⟩ <;> simp [hm, hl] at w
            · exact .inl
          · exact Iff.rfl
        constructor
        · rintro (y | y | y)
          · exact .inl y
          · exact .inr (.inl ⟨y.1, (this y.1).mp y.2⟩)
          · exact .inr (.inr y)
        · rintro (y | y | y)
          · exact .inl y
          · exact .inr (.inl ⟨y.1, (this y.1).mpr y.2⟩)
          · exact .inr (.inr y)
      have b : underWay (putIn s e.depot e.food e.id) x = underWay s x := rfl
      unfold c; rw [a, b]
    rw [c_laying hm hn, c_laid (s := putIn s e.depot e.food e.id) hm (by rw [putIn_tin hd, if_pos rfl]; show e.id ∈ (tin s e.depot).laid ++ [e.id]; simp)] at h1
    have h2 := I.co d hd2
    show (tin (putIn s e.depot e.food e.id) d).food = T (c (putIn s e.depot e.food e.id) d) s.papers
    have h3 : tot s d = T (c s d) s.papers := rfl
    rw [putIn_tin hd]
    by_cases z : d = e.depot
    · subst z
      rw [if_pos rfl] at h1 ⊢
      show (tin s e.depot).food + e.food = _
      omega
    · rw [if_neg z]
      rw [if_neg (Ne.symm z)] at h1
      omega
theorem Inv.lay3 {s : St} (I : Inv s) {p : Nat} {e : Entry} (h : e ∈ (paper s p).entries) (hm : e.mark = .laying) (hl : e.id ∈ (tin s e.depot).laid) : Inv (Vbexac.mark s p e.id .held) :=
  I.mark (I.st.markOk h (.inr (.inl hm)) (by simp) (by simp)) fun d => (c_held rfl).trans (c_laid hm hl).symm
theorem Inv.lay3' {s : St} (I : Inv s) {p : Nat} {e : Entry} (h : e ∈ (paper s p).entries) (hm : e.mark = .laying) (hl : e.id ∉ (tin s e.depot).laid) : Inv (Vbexac.mark s p e.id .dead) :=
  I.mark (I.st.markOk h (.inr (.inl hm)) (by simp) (by simp)) fun d => (c_none (.inl rfl)).trans (c_laying hm hl).symm
/-! ### use -/
theorem Inv.use1 {s : St} (I : Inv s) {p : Nat} {e : Entry} (h : e ∈ (paper s p).entries) (hm : e.mark = .held) : Inv (Vbexac.mark s p e.id .using) :=
  I.mark (I.st.markOk h (.inl hm) (by simp) (by simp)) fun d => (c_using (e := { e with mark := .using }) rfl (I.st.unused h (.inl hm) _)).trans (c_held hm).symm
def eat (s : St) (p d n id : Nat) : St := { setTin s d { tin s d with food := (tin s d).food - n, used := (tin s d).used ++ [id] } with eaten := s.eaten.modify p (fun k => k + n) }
theorem eat_tin {s : St} {p d n id c : Nat} (hd : d < s.tins.length) : tin (eat s p d n id) c = if c = d then { tin s d with food := (tin s d).food - n, used := (tin s d).used ++ [id] } else tin s c := by
  show tin (setTin s d _) c = _
  rw [tin_set]
  by_cases z : c = d
  · rw [if_pos ⟨z, hd⟩, if_pos z]
  · rw [if_neg (fun y => z y.1), if_neg z]
theorem Inv.use2 {s : St} (I : Inv s) {p : Nat} {e : Entry} (h : e ∈ (paper s p).entries) (hm : e.mark = .using) (hn : e.id ∉ (tin s e.depot).used) : Inv (eat s p e.depot e.food e.id) := by
  have hd := I.st.dp p e h
  have tl : ∀ d, (tin (eat s p e.depot e.food e.id) d).laid = (tin s d).laid := fun d => by
    rw [eat_tin hd]; split
    · rename_i z; rw [z]
    · rfl
  refine ⟨⟨I.st.pl, by show (s.eaten.modify _ _).length = _; rw [List.length_modify]; exact I.st.el, I.st.nx, I.st.uq, I.st.kn, fun q x hx => ?_, I.st.ot, fun x hx => ?_, I.st.rf, I.st.ou, I.st.rc, I.st.gv, fun m hm => ⟨(I.st.ms m hm).se, (I.st.ms m hm).to, (I.st.ms m hm).ok⟩, fun d i hi => ?_, fun d i hi => ?_⟩, fun d hd' => ?_⟩
  · show _ < (s.tins.set _ _).length
    rw [List.length_set]; exact I.st.dp q x hx
  · show _ ≤ (s.tins.set _ _).length
    rw [List.length_set]; exact I.st.pc x hx
  · rw [tl] at hi; exact I.st.lk d i hi
  · rw [eat_tin hd] at hi
    split at hi
    · rename_i z
      rcases List.mem_append.mp (show i ∈ (tin s e.depot).used ++ [e.id] from hi) with y | y
      · rw [z]; exact I.st.uk _ _ y
      · simp at y
        exact ⟨p, e, h, y.symm, z.symm, .inl hm⟩
    · exact I.st.uk d i hi
  · have hd2 : d < s.tins.length := by
      have : d < (s.tins.set e.depot { tin s e.depot with food := (tin s e.depot).food - e.food, used := (tin s e.depot).used ++ [e.id] }).length := hd'
      rwa [List.length_set] at this
    have h1 := T_one (f := c (eat s p e.depot e.food e.id) d) (g := c s d) I.st h fun q x hx hn => by
      have a : alive (eat s p e.depot e.food e.id) x = alive s x := by
        rw [Bool.eq_iff_iff, alive_iff, alive_iff, tl]
        have : x.mark = .using → (x.id ∉ (tin (eat s p e.depot e.food e.id) x.depot).used ↔ x.id ∉ (tin s x.depot).used) := fun hl => by
          rw [eat_tin hd]
          split
          · rename_i z
            show ¬ x.id ∈ (tin s e.depot).used ++ [e.id] ↔ _
            rw [z, List.mem_append]
            constructor
            · exact fun y w => y (.inl w)
            · rintro y (w | w)
              · exact y w
              · simp at w
                by_cases hq : q = p
                · exact absurd ⟨hq, w⟩ hn
                · rcases I.st.two h hx (Ne.symm hq) w.symm with ⟨_, _, v | v | v⟩ | ⟨_, _, v | v | v⟩ <;> simp [hm, hl] at v
          · exact Iff.rfl
        constructor
        · rintro (y | y | y)
          · exact .inl y
          · exact .inr (.inl y)
          · exact .inr (.inr ⟨y.1, (this y.1).mp y.2⟩)
        · rintro (y | y | y)
          · exact .inl y
          · exact .inr (.inl y)
          · exact .inr (.inr ⟨y.1, (this y.1).mpr y.2⟩)
      have b : underWay (eat s p e.depot e.food e.id) x = underWay s x := rfl
      unfold c; rw [a, b]
    rw [c_using hm hn, c_eaten (s := eat s p e.depot e.food e.id) hm (by rw [eat_tin hd, if_pos rfl]; show e.id ∈ (tin s e.depot).used ++ [e.id]; simp)] at h1
    have h2 := I.co d hd2
    show (tin (eat s p e.depot e.food e.id) d).food = T (c (eat s p e.depot e.food e.id) d) s.papers
    have h3 : tot s d = T (c s d) s.papers := rfl
    rw [eat_tin hd]
    by_cases z : d = e.depot
    · subst z
      rw [if_pos rfl] at h1 ⊢
      show (tin s e.depot).food - e.food = _
      omega
    · rw [if_neg z]
      rw [if_neg (Ne.symm z)] at h1
      omega
theorem Inv.use3 {s : St} (I : Inv s) {p : Nat} {e : Entry} (h : e ∈ (paper s p).entries) (hm : e.mark = .using) (hu : e.id ∈ (tin s e.depot).used) : Inv (Vbexac.mark s p e.id .used) :=
  I.mark (I.st.markOk h (.inr (.inr ⟨hm, .inl rfl⟩)) (by simp) (by simp)) fun d => (c_none (.inr (.inr (.inl rfl)))).trans (c_eaten hm hu).symm
theorem Inv.use3' {s : St} (I : Inv s) {p : Nat} {e : Entry} (h : e ∈ (paper s p).entries) (hm : e.mark = .using) (hu : e.id ∉ (tin s e.depot).used) : Inv (Vbexac.mark s p e.id .held) :=
  I.mark (I.st.markOk h (.inr (.inr ⟨hm, .inr hu⟩)) (by simp) (by simp)) fun d => (c_held rfl).trans (c_using hm hu).symm
end RF
end
section
set_option linter.all false
set_option Elab.async false
namespace RF
open Vbexac
/-! ### split, join, give -/
theorem c_ext {s t : St} {e : Entry} (h1 : alive s e = alive t e) (h2 : underWay s e = underWay t e) (d : Nat) : c s d e = c t d e := by unfold c; rw [h1, h2]
theorem mark_still {s : St} {p : Nat} {e x : Entry} {m : Mark} {q : Nat} (h : x ∈ (paper s q).entries) (n : ¬ (q = p ∧ x.id = e.id)) : x ∈ (paper (mark s p e.id m) q).entries := mark_mem.mpr ⟨x, h, (up_same n).symm⟩
theorem writeNew_still {s : St} {p depot food : Nat} {m : Mark} {other q : Nat} {x : Entry} (hp : p < s.papers.length) (h : x ∈ (paper s q).entries) : x ∈ (paper (writeNew s p depot food m other) q).entries := by
  rw [writeNew_add]; exact (add_mem hp).mpr (.inl h)
theorem writeNew_new {s : St} {p depot food : Nat} {m : Mark} {other : Nat} (hp : p < s.papers.length) : newE s p depot food m other ∈ (paper (writeNew s p depot food m other) p).entries := by
  rw [writeNew_add]; exact (add_mem hp).mpr (.inr ⟨rfl, rfl⟩)
theorem writeNew_next {s : St} {p depot food : Nat} {m : Mark} {other : Nat} (hp : p < s.papers.length) : (paper (writeNew s p depot food m other) p).next = (paper s p).next + 1 := by
  rw [writeNew_add, add_paper hp, if_pos rfl]
theorem writeNew_len {s : St} {p depot food : Nat} {m : Mark} {other : Nat} : (writeNew s p depot food m other).papers.length = s.papers.length := by
  rw [writeNew_add, add_len]
section
variable {s : St} {p : Nat} {e : Entry}
theorem Inv.over {s : St} (I : Inv s) (h : e ∈ (paper s p).entries) (hm : e.mark = .held) : InvS (Vbexac.mark s p e.id .dead) ∧ ∀ d, tot (Vbexac.mark s p e.id .dead) d + (if e.depot = d then e.food else 0) = tot s d := by
  refine ⟨I.st.mark (I.st.markOk h (.inl hm) (by simp) (by simp)), fun d => ?_⟩
  have := mark_tot (d := d) (m := .dead) I.st h (by rw [hm]; simp) (by simp)
  rw [c_held hm, c_none (e := { e with mark := .dead }) (.inl rfl)] at this
  omega
theorem InvS.newHeld {s : St} (I : InvS s) {p depot food : Nat} (hp : p < s.papers.length) (hn : (paper s p).next + 1 ≤ 60) (hd : depot < s.tins.length) :
    InvS (writeNew s p depot food .held p) ∧ ∀ d, tot (writeNew s p depot food .held p) d = tot s d + (if depot = d then food else 0) := by
  have A := writeNew_ok (food := food) (m := .held) I hp hn hd hp (by simp) (by simp) (fun h => absurd rfl h)
  refine ⟨by rw [writeNew_add]; exact I.add A, fun d => ?_⟩
  rw [writeNew_tot I A, c_held rfl]; rfl
theorem InvS.newOut {s : St} (I : InvS s) {p depot food q : Nat} (hp : p < s.papers.length) (hn : (paper s p).next + 1 ≤ 60) (hd : depot < s.tins.length) (hq : q < s.papers.length) (hpq : q ≠ p) :
    InvS (writeNew s p depot food .out q) ∧ ∀ d, tot (writeNew s p depot food .out q) d = tot s d + (if depot = d then food else 0) := by
  have A := writeNew_ok (food := food) (m := .out) I hp hn hd hq (by simp) (fun _ => hpq) (fun _ => rfl)
  refine ⟨by rw [writeNew_add]; exact I.add A, fun d => ?_⟩
  rw [writeNew_tot I A]
  have : entry (writeNew s p depot food .out q) q (nextId s p) = none := by
    rw [writeNew_add]
    have := add_entry A q (nextId s p)
    rw [if_neg (fun z => hpq z.1)] at this
    rw [show (_root_.RF.add s p ((paper s p).next + 1) { id := nextId s p, depot := depot, food := food, mark := .out, other := q }) = _root_.RF.add s p ((paper s p).next + 1) (newE s p depot food .out q) from rfl, this]
    unfold entry
    exact List.find?_eq_none.mpr fun x hx => by simpa using I.fresh hn (I.kn q x hx)
  rw [c_way (e := newE s p depot food .out q) rfl (.inl this)]; rfl
theorem Inv.split {s : St} (I : Inv s) (h : e ∈ (paper s p).entries) (hm : e.mark = .held) {n : Nat} (hf : n < e.food) (hn : (paper s p).next + 2 ≤ 60) :
    Inv (writeNew (writeNew (Vbexac.mark s p e.id .dead) p e.depot n .held p) p e.depot (e.food - n) .held p) := by
  obtain ⟨I1, t1⟩ := I.over h hm
  have hp : p < (Vbexac.mark s p e.id .dead).papers.length := by rw [mark_papers_len]; exact lt_of_mem h
  have n1 : (paper (Vbexac.mark s p e.id .dead) p).next + 1 ≤ 60 := by rw [mark_next]; omega
  have hd : e.depot < s.tins.length := I.st.dp p e h
  obtain ⟨I2, t2⟩ := I1.newHeld (food := n) hp n1 hd
  obtain ⟨I3, t3⟩ := I2.newHeld (p := p) (depot := e.depot) (food := e.food - n) (by rw [writeNew_len]; exact hp) (by rw [writeNew_next hp, mark_next]; omega) hd
  refine ⟨I3, fun d hd' => ?_⟩
  rw [t3, t2]
  have := t1 d
  have q : (tin s d).food = tot s d := I.co d hd'
  show (tin s d).food = _
  rw [q]
  split at this
  · rename_i z; rw [if_pos z, if_pos z]; omega
  · rename_i z; rw [if_neg z, if_neg z]; omega
theorem Inv.join {s : St} (I : Inv s) {f : Entry} (h : e ∈ (paper s p).entries) (hm : e.mark = .held) (h' : f ∈ (paper s p).entries) (hm' : f.mark = .held) (hi : e.id ≠ f.id) (hd : e.depot = f.depot) (hn : (paper s p).next + 1 ≤ 60) :
    InvS (Vbexac.mark s p e.id .dead) ∧ InvS (Vbexac.mark (Vbexac.mark s p e.id .dead) p f.id .dead) ∧ Inv (writeNew (Vbexac.mark (Vbexac.mark s p e.id .dead) p f.id .dead) p e.depot (e.food + f.food) .held p) := by
  obtain ⟨I1, t1⟩ := I.over h hm
  have f1 : f ∈ (paper (Vbexac.mark s p e.id .dead) p).entries := mark_still h' fun z => hi z.2.symm
  have I2 := I1.mark (I1.markOk (m := .dead) f1 (.inl hm') (by simp) (by simp))
  have hp : p < (Vbexac.mark (Vbexac.mark s p e.id .dead) p f.id .dead).papers.length := by rw [mark_papers_len, mark_papers_len]; exact lt_of_mem h
  obtain ⟨I3, t3⟩ := I2.newHeld (p := p) (depot := e.depot) (food := e.food + f.food) hp (by rw [mark_next, mark_next]; exact hn) (I.st.dp p e h)
  refine ⟨I1, I2, I3, fun d hd' => ?_⟩
  rw [t3]
  have a1 := t1 d
  have a2 := mark_tot (d := d) (m := .dead) I1 f1 (by rw [hm']; simp) (by simp)
  rw [c_held hm', c_none (e := { f with mark := .dead }) (.inl rfl), ← hd] at a2
  have q : (tin s d).food = tot s d := I.co d hd'
  show (tin s d).food = _
  rw [q]
  by_cases z : e.depot = d
  · rw [if_pos z] at a1 a2 ⊢; omega
  · rw [if_neg z] at a1 a2 ⊢; omega
theorem Inv.give {s : St} (I : Inv s) (h : e ∈ (paper s p).entries) (hm : e.mark = .held) {q : Nat} (hq : q < s.papers.length) (hpq : q ≠ p) (hn : (paper s p).next + 1 ≤ 60) :
    InvS (Vbexac.mark s p e.id .dead) ∧ Inv (writeNew (Vbexac.mark s p e.id .dead) p e.depot e.food .out q) := by
  obtain ⟨I1, t1⟩ := I.over h hm
  have hp : p < (Vbexac.mark s p e.id .dead).papers.length := by rw [mark_papers_len]; exact lt_of_mem h
  obtain ⟨I2, t2⟩ := I1.newOut (food := e.food) hp (by rw [mark_next]; exact hn) (I.st.dp p e h) (by rw [mark_papers_len]; exact hq) hpq
  refine ⟨I1, I2, fun d hd' => ?_⟩
  rw [t2]
  have a1 := t1 d
  have q : (tin s d).food = tot s d := I.co d hd'
  show (tin s d).food = _
  rw [q]; omega
end
/-! ### messages -/
/-- a gift or an ask about an entry that's given -/
theorem InvS.about {s : St} (I : InvS s) {p : Nat} {e : Entry} (h : e ∈ (paper s p).entries) (hm : e.mark = .out) {k : Nat} (hk : k = 0 ∨ k = 2) : MsgOk s { kind := k, sender := p, to := e.other, id := e.id, depot := e.depot, food := e.food } :=
  ⟨lt_of_mem h, I.ot p e h, .inl ⟨hk, Ne.symm (I.ou p e h hm).2, (I.ou p e h hm).1, e, h, rfl, rfl, rfl, rfl⟩⟩
section
variable {s : St} {m : Message}
/-- a gift or an ask is heard where there is no entry -/
theorem hear_new (I : InvS s) (M : MsgOk s m) (hk : m.kind = 0 ∨ m.kind = 2) (hn : entry s m.to m.id = none) {k : Mark} (hm : k = .held ∨ k = .refused) :
    AddOk s m.to (paper s m.to).next { id := m.id, depot := m.depot, food := m.food, mark := k, other := m.sender } ∧
      ∃ g ∈ (paper s m.sender).entries, g.id = m.id ∧ g.other = m.to ∧ g.depot = m.depot ∧ g.food = m.food ∧ g.mark = .out := by
  rcases M.ok with ⟨_, n, km, g, hg, e1, e2, e3, e4⟩ | ⟨z, _⟩ | ⟨z, _⟩
  · have out : g.mark = .out := by
      rcases I.gv m.sender g hg (by rw [e1]; exact km) (by rw [e2]; exact Ne.symm n) with z | ⟨x, hx, ex⟩
      · exact z
      · rw [e2] at hx
        exact absurd (ex.trans e1) (entry_none hn x hx)
    refine ⟨⟨M.to, Nat.le_refl _, I.nx _, entry_none hn, .inl (by have := I.kn _ _ hg; rw [e1] at this; exact this), ?_, M.se, fun _ z => n (km.symm.trans z), ?_, fun _ => ⟨g, ?_, e1, e2, e3, e4, fun _ => .inl out⟩, fun z => absurd (km.symm.trans z) n⟩, g, hg, e1, e2, e3, e4, out⟩
    · show m.depot < _
      rw [← e3]; exact I.dp _ _ hg
    · intro z
      rcases hm with w | w <;> rw [w] at z <;> simp at z
    · show g ∈ (paper s (mkr m.id)).entries
      rw [km]; exact hg
  · rcases hk with w | w <;> rw [z] at w <;> simp at w
  · rcases hk with w | w <;> rw [z] at w <;> simp at w
theorem Inv.hearGift (I : Inv s) (M : MsgOk s m) (hk : m.kind = 0) (hn : entry s m.to m.id = none) : Inv (write s m.to { id := m.id, depot := m.depot, food := m.food, mark := .held, other := m.sender }) := by
  obtain ⟨A, g, hg, e1, e2, e3, e4, e5⟩ := hear_new (k := .held) I.st M (.inl hk) hn (.inl rfl)
  rw [write_add]
  refine ⟨I.st.add A, fun d hd => ?_⟩
  have h := add_tot1 I.st A d hg e5 e1
  have q : (tin s d).food = tot s d := I.co d hd
  show (tin s d).food = _
  rw [c_way e5 (.inl (by rw [e2, e1]; exact hn)), c_held (e := { id := m.id, depot := m.depot, food := m.food, mark := .held, other := m.sender }) rfl, c_got (x := { id := m.id, depot := m.depot, food := m.food, mark := .held, other := m.sender }) e5 (by rw [add_entry A, if_pos ⟨e2, e1⟩]) (by simp), e3, e4] at h
  rw [q]
  have h' : (if ({ id := m.id, depot := m.depot, food := m.food, mark := Mark.held, other := m.sender } : Entry).depot = d then ({ id := m.id, depot := m.depot, food := m.food, mark := Mark.held, other := m.sender } : Entry).food else 0) = if m.depot = d then m.food else 0 := rfl
  rw [h'] at h
  omega
theorem Inv.hearAsk (I : Inv s) (M : MsgOk s m) (hk : m.kind = 2) (hn : entry s m.to m.id = none) : Inv (write s m.to { id := m.id, depot := m.depot, food := m.food, mark := .refused, other := m.sender }) := by
  obtain ⟨A, _⟩ := hear_new (k := .refused) I.st M (.inr hk) hn (.inr rfl)
  rw [write_add]
  refine ⟨I.st.add A, fun d hd => ?_⟩
  have h := add_tot A d fun _ _ _ _ _ _ => rfl
  have q : (tin s d).food = tot s d := I.co d hd
  show (tin s d).food = _
  rw [h, c_none (.inr (.inr (.inr rfl))), q]; rfl
/-- the answer to a gift or an ask -/
theorem reply_ok (I : InvS s) (M : MsgOk s m) (hk : m.kind = 0 ∨ m.kind = 2) {x : Entry} (hx : x ∈ (paper s m.to).entries) (ex : x.id = m.id) : MsgOk s { kind := if is x.mark .refused = true then 3 else 1, sender := m.to, to := m.sender, id := m.id, depot := m.depot, food := m.food } := by
  rcases M.ok with ⟨_, n, km, _⟩ | ⟨z, _⟩ | ⟨z, _⟩
  · refine ⟨M.to, M.se, ?_⟩
    by_cases h : is x.mark .refused = true
    · exact .inr (.inr ⟨by show (if _ then 3 else 1) = 3; rw [if_pos h], x, hx, ex, is_iff.mp h⟩)
    · refine .inr (.inl ⟨by show (if _ then 3 else 1) = 1; rw [if_neg h], ?_, x, hx, ex, fun z => h (is_iff.mpr z)⟩)
      show mkr m.id ≠ m.to
      rw [km]; exact n
  · rcases hk with w | w <;> rw [z] at w <;> simp at w
  · rcases hk with w | w <;> rw [z] at w <;> simp at w
/-- got is heard by the giver -/
theorem Inv.hearGot (I : Inv s) (M : MsgOk s m) (hk : m.kind = 1) {e : Entry} (h : e ∈ (paper s m.to).entries) (ei : e.id = m.id) (hm : e.mark = .out) (ho : e.other = m.sender) : Inv (Vbexac.mark s m.to e.id .gone) := by
  rcases M.ok with ⟨z, _⟩ | ⟨_, km, x, hx, ex, xr⟩ | ⟨z, _⟩
  · rcases z with w | w <;> rw [hk] at w <;> simp at w
  · refine I.mark ⟨h, by rw [hm]; simp, by simp, by simp, fun _ _ _ _ _ _ _ => rfl, fun _ => ⟨x, by rw [ho]; exact hx, by rw [ex, ei]⟩, fun z => by rw [hm] at z; simp at z⟩ fun d => ?_
    rw [c_got (x := x) hm (by rw [ho, ei, ← ex]; exact I.st.find hx) xr, c_none (e := { e with mark := .gone }) (.inr (.inl rfl))]
  · rw [hk] at z; simp at z
/-- refused is heard by the giver -/
theorem Inv.hearRefused (I : Inv s) (M : MsgOk s m) (hk : m.kind = 3) {e : Entry} (h : e ∈ (paper s m.to).entries) (ei : e.id = m.id) (hm : e.mark = .out) (ho : e.other = m.sender) : Inv (Vbexac.mark s m.to e.id .held) := by
  rcases M.ok with ⟨z, _⟩ | ⟨z, _⟩ | ⟨_, x, hx, ex, xr⟩
  · rcases z with w | w <;> rw [hk] at w <;> simp at w
  · rw [hk] at z; simp at z
  · refine I.mark ⟨h, by rw [hm]; simp, by simp, by simp, fun q y hy hq hyi hkm hyr => ?_, fun _ => ⟨x, by rw [ho]; exact hx, by rw [ex, ei]⟩, fun z => by rw [hm] at z; simp at z⟩ fun d => ?_
    · -- the other's entry is refused
      rcases I.st.two h hy (Ne.symm hq) hyi.symm with ⟨_, z, _⟩ | ⟨z, _⟩
      · have : y = x := by
          rw [ho] at z
          rw [← z] at hy
          exact I.st.one hy hx (by rw [hyi, ei, ex])
        subst this
        exact absurd xr hyr
      · exact absurd (z.symm.trans hkm) hq
    · rw [c_way hm (.inr ⟨x, by rw [ho, ei, ← ex]; exact I.st.find hx, xr⟩), c_held (e := { e with mark := .held }) rfl]
end
end RF
end
section
set_option linter.all false
set_option Elab.async false
namespace RF
open Vbexac
theorem chain_nil {s : St} (I : Inv s) : Inv (steps s []).1 := I
theorem chain {s : St} {f : St → St} {r : List (St → St)} (I : Inv s) (h : ∀ a, Inv (steps (f { s with armed := a }) r).1) : Inv (steps s (f :: r)).1 := by
  rw [steps_cons]
  split
  · exact I.cut
  · obtain ⟨a, e⟩ := cut_eq s
    rw [e]; exact h a
theorem doSteps_fst (s : St) (l : List (St → St)) (ok : St → List Int) : (doSteps s l ok).1 = (steps s l).1 := by
  unfold doSteps
  simp only []
  split <;> rfl
/-! ### begin -/
theorem Inv.fresh_ (n k : Nat) : Inv { on := true, papers := List.replicate n {}, places := List.replicate n 0, tins := List.replicate k {}, eaten := List.replicate n 0 } := by
  have hp : ∀ p, (List.replicate n ({} : Paper)).getD p {} = {} := fun p => by
    rw [List.getD_eq_getElem?_getD, List.getElem?_replicate]; split <;> rfl
  have ht : ∀ p, (List.replicate k ({} : Tin)).getD p {} = {} := fun p => by
    rw [List.getD_eq_getElem?_getD, List.getElem?_replicate]; split <;> rfl
  have nope : ∀ {p : Nat} {e : Entry}, ¬ e ∈ ((List.replicate n ({} : Paper)).getD p {}).entries := fun {p e} h => by rw [hp] at h; simp at h
  refine ⟨⟨by simp, by simp, fun p => ?_, fun p => ?_, fun p e h => absurd h nope, fun p e h => absurd h nope, fun p e h => absurd h nope, fun x hx => ?_, fun p e h => absurd h nope, fun p e h => absurd h nope, fun p e h => absurd h nope, fun p e h => absurd h nope, fun m h => ?_, fun d i h => ?_, fun d i h => ?_⟩, fun d _ => ?_⟩
  · show ((List.replicate n ({} : Paper)).getD p {}).next ≤ 60
    rw [hp]; exact Nat.zero_le _
  · show (((List.replicate n ({} : Paper)).getD p {}).entries.map _).Nodup
    rw [hp]; simp
  · rw [(List.mem_replicate.mp hx).2]; exact Nat.zero_le _
  · simp at h
  · have h' : i ∈ ((List.replicate k ({} : Tin)).getD d {}).laid := h
    rw [ht] at h'; simp at h'
  · have h' : i ∈ ((List.replicate k ({} : Tin)).getD d {}).used := h
    rw [ht] at h'; simp at h'
  · show ((List.replicate k ({} : Tin)).getD d {}).food = T _ (List.replicate n {})
    rw [ht]
    have : ∀ (f : Entry → Nat) (n : Nat), T f (List.replicate n {}) = 0 := fun f n => by
      induction n with
      | zero => rfl
      | succ n ih => rw [List.replicate_succ]; simp only [T, S]; omega
    rw [this]
theorem Inv.start_ : Inv start := by
  have nope : ∀ {p : Nat} {e : Entry}, ¬ e ∈ (paper start p).entries := fun {p e} h => by
    unfold paper start at h; simp at h
  refine ⟨⟨rfl, rfl, fun p => ?_, fun p => ?_, fun p e h => absurd h nope, fun p e h => absurd h nope, fun p e h => absurd h nope, fun x hx => ?_, fun p e h => absurd h nope, fun p e h => absurd h nope, fun p e h => absurd h nope, fun p e h => absurd h nope, fun m h => ?_, fun d i h => ?_, fun d i h => ?_⟩, fun d hd => ?_⟩
  · unfold paper start; simp
  · unfold paper start; simp
  · simp [start] at hx
  · simp [start] at h
  · unfold tin start at h; simp at h
  · unfold tin start at h; simp at h
  · simp [start] at hd
/-! ### the calls with small steps -/
section
variable {s : St} {p : Nat}
theorem Inv.laySteps (I : Inv s) {d n : Nat} (hp : p < s.papers.length) (hn : (paper s p).next + 1 ≤ 60) (hd : d < s.tins.length) : Inv (steps s (Vbexac.laySteps p d n (nextId s p))).1 := by
  refine chain I fun a => ?_
  have I1 : Inv (writeNew { s with armed := a } p d n .laying p) := (I.armed a).lay1 hp hn hd
  have m1 : newE s p d n .laying p ∈ (paper (writeNew { s with armed := a } p d n .laying p) p).entries := writeNew_new (s := { s with armed := a }) hp
  have l1 : (newE s p d n .laying p).id ∉ (tin (writeNew { s with armed := a } p d n .laying p) d).laid := fun z => I.st.fresh hn (I.st.lk d _ z) rfl
  refine chain I1 fun b => ?_
  have I2 := (I1.armed b).lay2 (e := newE s p d n .laying p) m1 rfl l1
  refine chain I2 fun c => ?_
  refine chain_nil ?_
  refine (I2.armed c).lay3 (e := newE s p d n .laying p) m1 rfl ?_
  have hd' : d < (writeNew { s with armed := a } p d n .laying p).tins.length := hd
  have := putIn_tin (s := { writeNew { s with armed := a } p d n .laying p with armed := b }) (n := n) (id := nextId s p) (c := d) hd'
  show nextId s p ∈ (tin (putIn { writeNew { s with armed := a } p d n .laying p with armed := b } d n (nextId s p)) d).laid
  rw [this, if_pos rfl]
  show nextId s p ∈ _ ++ [nextId s p]
  simp
theorem Inv.useSteps (I : Inv s) {e : Entry} (h : e ∈ (paper s p).entries) (hm : e.mark = .held) : Inv (steps s (Vbexac.useSteps p e)).1 := by
  refine chain I fun a => ?_
  have I1 : Inv (Vbexac.mark { s with armed := a } p e.id .using) := (I.armed a).use1 h hm
  have m1 : { e with mark := .using } ∈ (paper (Vbexac.mark { s with armed := a } p e.id .using) p).entries := mark_mem.mpr ⟨e, h, (up_at rfl).symm⟩
  have u1 : e.id ∉ (tin (Vbexac.mark { s with armed := a } p e.id .using) e.depot).used := I.st.unused h (.inl hm) _
  refine chain I1 fun b => ?_
  have I2 := (I1.armed b).use2 (e := { e with mark := .using }) m1 rfl u1
  refine chain I2 fun c => ?_
  refine chain_nil ?_
  refine (I2.armed c).use3 (e := { e with mark := .using }) m1 rfl ?_
  have hd' : e.depot < (Vbexac.mark { s with armed := a } p e.id .using).tins.length := I.st.dp p e h
  have := eat_tin (s := { Vbexac.mark { s with armed := a } p e.id .using with armed := b }) (p := p) (n := e.food) (id := e.id) (c := e.depot) hd'
  show e.id ∈ (tin (eat { Vbexac.mark { s with armed := a } p e.id .using with armed := b } p e.depot e.food e.id) e.depot).used
  rw [this, if_pos rfl]
  show e.id ∈ _ ++ [e.id]
  simp
theorem Inv.giveSteps (I : Inv s) {e : Entry} (h : e ∈ (paper s p).entries) (hm : e.mark = .held) {q : Nat} (hq : q < s.papers.length) (hpq : q ≠ p) (hn : (paper s p).next + 1 ≤ 60) : Inv (steps s (Vbexac.giveSteps p q e (nextId s p))).1 := by
  refine chain I fun a => ?_
  obtain ⟨_, I1⟩ := (I.armed a).give h hm hq hpq hn
  refine chain I1 fun b => ?_
  refine chain_nil ?_
  have hp : p < (Vbexac.mark { s with armed := a } p e.id .dead).papers.length := by rw [mark_papers_len]; exact lt_of_mem h
  have hid : nextId (Vbexac.mark { s with armed := a } p e.id .dead) p = nextId s p := by unfold nextId; rw [mark_next]; rfl
  have m1 := writeNew_new (s := Vbexac.mark { s with armed := a } p e.id .dead) (p := p) (depot := e.depot) (food := e.food) (m := .out) (other := q) hp
  have := (I1.armed b).send ((I1.armed b).st.about (e := newE (Vbexac.mark { s with armed := a } p e.id .dead) p e.depot e.food .out q) m1 rfl (k := 0) (.inl rfl))
  unfold newE at this
  rw [hid] at this
  exact this
theorem Inv.hearSteps (I : Inv s) {m : Message} (M : MsgOk s m) : Inv (steps s (Vbexac.hearSteps s m)).1 := by
  have entry_same : ∀ (a : Option Nat) q i, entry { s with armed := a } q i = entry s q i := fun _ _ _ => rfl
  unfold Vbexac.hearSteps
  simp only []
  have msg : ∀ {t : St} {x : Message}, MsgOk t x → ∀ a, MsgOk { t with armed := a } x := fun h a => ⟨h.se, h.to, h.ok⟩
  have lift : ∀ {k : Mark}, AddOk s m.to (paper s m.to).next { id := m.id, depot := m.depot, food := m.food, mark := k, other := m.sender } → MsgOk (write s m.to { id := m.id, depot := m.depot, food := m.food, mark := k, other := m.sender }) m := fun {k} A => by
    obtain ⟨h1, h2, h3⟩ := M
    rw [write_add]
    have old : ∀ {q : Nat} {x : Entry}, x ∈ (paper s q).entries → x ∈ (paper (add s m.to (paper s m.to).next { id := m.id, depot := m.depot, food := m.food, mark := k, other := m.sender }) q).entries := fun h => (add_mem A.lt).mpr (.inl h)
    refine ⟨by rw [add_len]; exact h1, by rw [add_len]; exact h2, ?_⟩
    rcases h3 with ⟨k, a, b, x, hx, r⟩ | ⟨k, a, x, hx, r⟩ | ⟨k, x, hx, r⟩
    · exact .inl ⟨k, a, b, x, old hx, r⟩
    · exact .inr (.inl ⟨k, a, x, old hx, r⟩)
    · exact .inr (.inr ⟨k, x, old hx, r⟩)
  by_cases k0 : m.kind = 0
  · rw [if_pos k0]
    cases hn : entry s m.to m.id with
    | none =>
      refine chain I fun a => ?_
      have I1 := (I.armed a).hearGift (msg M a) k0 hn
      refine chain I1 fun b => ?_
      refine chain_nil ?_
      obtain ⟨A, _⟩ := hear_new (k := .held) I.st M (.inl k0) hn (.inl rfl)
      have R := reply_ok (I1.armed b).st (msg (msg (lift A) a) b) (.inl k0) (x := { id := m.id, depot := m.depot, food := m.food, mark := .held, other := m.sender }) ((add_mem A.lt).mpr (.inr ⟨rfl, rfl⟩)) rfl
      exact (I1.armed b).send R
    | some e =>
      refine chain I fun a => ?_
      refine chain_nil ?_
      obtain ⟨h1, h2⟩ := entry_mem hn
      exact (I.armed a).send (reply_ok (I.armed a).st (msg M a) (.inl k0) h1 h2)
  · rw [if_neg k0]
    by_cases k2 : m.kind = 2
    · rw [if_pos k2]
      cases hn : entry s m.to m.id with
      | none =>
        refine chain I fun a => ?_
        have I1 := (I.armed a).hearAsk (msg M a) k2 hn
        refine chain I1 fun b => ?_
        refine chain_nil ?_
        obtain ⟨A, _⟩ := hear_new (k := .refused) I.st M (.inr k2) hn (.inr rfl)
        have R := reply_ok (I1.armed b).st (msg (msg (lift A) a) b) (.inr k2) (x := { id := m.id, depot := m.depot, food := m.food, mark := .refused, other := m.sender }) ((add_mem A.lt).mpr (.inr ⟨rfl, rfl⟩)) rfl
        exact (I1.armed b).send R
      | some e =>
        refine chain I fun a => ?_
        refine chain_nil ?_
        obtain ⟨h1, h2⟩ := entry_mem hn
        exact (I.armed a).send (reply_ok (I.armed a).st (msg M a) (.inr k2) h1 h2)
    · rw [if_neg k2]
      cases hn : entry s m.to m.id with
      | none => exact chain_nil I
      | some e =>
        simp only []
        by_cases z : is e.mark .out = true ∧ e.other = m.sender
        · rw [if_pos z]
          refine chain I fun a => ?_
          refine chain_nil ?_
          obtain ⟨h1, h2⟩ := entry_mem hn
          have zo := is_iff.mp z.1
          rw [← h2]
          rcases M.ok with ⟨w, _⟩ | ⟨w, _⟩ | ⟨w, _⟩
          · rcases w with w | w
            · exact absurd w k0
            · exact absurd w k2
          · rw [if_pos w]
            exact (I.armed a).hearGot (msg M a) w h1 h2 zo z.2
          · rw [if_neg (by rw [w]; simp)]
            exact (I.armed a).hearRefused (msg M a) w h1 h2 zo z.2
        · rw [if_neg z]; exact chain_nil I
theorem look_inv {d : Nat} : ∀ (l : List Entry) {t : St}, Inv t → (∀ e ∈ l, e ∈ (paper t p).entries) → (l.map (·.id)).Nodup → Inv (steps t (l.flatMap (resolve p d))).1
  | [], t, I, _, _ => I
  | e :: r, t, I, h, nd => by
    rw [List.map_cons, List.nodup_cons] at nd
    have he := h e (by simp)
    have hr : ∀ (a : Option Nat) (m : Mark), ∀ x ∈ r, x ∈ (paper (Vbexac.mark { t with armed := a } p e.id m) p).entries := fun a m x hx =>
      mark_still (s := { t with armed := a }) (h x (by simp [hx])) fun z => nd.1 (List.mem_map.mpr ⟨x, hx, z.2⟩)
    rw [List.flatMap_cons]
    unfold resolve
    by_cases hd : e.depot = d
    · subst hd
      rw [if_neg (fun z => z rfl)]
      by_cases h1 : is e.mark .laying = true
      · rw [if_pos h1]
        refine chain I fun a => ?_
        refine look_inv r ?_ (hr a _) nd.2
        have m1 := is_iff.mp h1
        have c1 : (tin { t with armed := a } e.depot).laid.contains e.id = true ↔ e.id ∈ (tin t e.depot).laid := by rw [List.contains_iff_mem]; exact Iff.rfl
        split
        · rename_i z; exact (I.armed a).lay3 he m1 (c1.mp z)
        · rename_i z; exact (I.armed a).lay3' he m1 (fun y => z (c1.mpr y))
      · rw [if_neg h1]
        by_cases h2 : is e.mark .using = true
        · rw [if_pos h2]
          refine chain I fun a => ?_
          refine look_inv r ?_ (hr a _) nd.2
          have m1 := is_iff.mp h2
          have c1 : (tin { t with armed := a } e.depot).used.contains e.id = true ↔ e.id ∈ (tin t e.depot).used := by rw [List.contains_iff_mem]; exact Iff.rfl
          split
          · rename_i z; exact (I.armed a).use3 he m1 (c1.mp z)
          · rename_i z; exact (I.armed a).use3' he m1 (fun y => z (c1.mpr y))
        · rw [if_neg h2]
          exact look_inv r I (fun x hx => h x (by simp [hx])) nd.2
    · rw [if_pos hd]
      exact look_inv r I (fun x hx => h x (by simp [hx])) nd.2
end
end RF
end
section
set_option linter.all false
set_option Elab.async false
namespace RF
open Vbexac
theorem steps_none1 {s : St} {f : St → St} (h : s.armed = none) : steps s [f] = (f s, true) := by
  rw [steps, h]; rfl
theorem steps_none2 {s : St} {f g : St → St} (h : s.armed = none) (h2 : (f s).armed = none) : steps s [f, g] = (g (f s), true) := by
  rw [steps, h]; exact steps_none1 h2
/-- a gift, its answer -/
def gift (p : Nat) (e : Entry) : Message := { kind := 0, sender := p, to := e.other, id := e.id, depot := e.depot, food := e.food }
def answer (k p : Nat) (e : Entry) : Message := { kind := k, sender := e.other, to := p, id := e.id, depot := e.depot, food := e.food }
def roundStep (s : St) (x : Nat × Entry) : St :=
  let m : Message := { kind := 0, sender := x.1, to := x.2.other, id := x.2.id, depot := x.2.depot, food := x.2.food }
  let a := (steps (send s m) (hearSteps s m)).1
  match a.air.getLast? with
  | none => a
  | some r => (steps a (hearSteps a r)).1
theorem goodRound_eq (s : St) : goodRound s = (unsettled s).foldl roundStep s := rfl
/-- behind the gift: the other has written, if need be; the kind of its answer -/
def heardBy (s : St) (p : Nat) (e : Entry) : St := match entry s e.other e.id with
  | none => write (send s (gift p e)) e.other { id := e.id, depot := e.depot, food := e.food, mark := .held, other := p }
  | some _ => send s (gift p e)
def kindBy (s : St) (e : Entry) : Nat := match entry s e.other e.id with
  | none => 1
  | some y => if is y.mark .refused = true then 3 else 1
theorem kindBy_or (s : St) (e : Entry) : kindBy s e = 1 ∨ kindBy s e = 3 := by
  unfold kindBy
  cases entry s e.other e.id with
  | none => exact .inl rfl
  | some y => simp only []; split <;> simp
theorem roundStep_eq {s : St} {p : Nat} {e : Entry} (I : InvS s) (h : e ∈ (paper s p).entries) (hm : e.mark = .out) (ha : s.armed = none) :
    roundStep s (p, e) = mark (send (heardBy s p e) (answer (kindBy s e) p e)) p e.id (if kindBy s e = 1 then .gone else .held) := by
  have hne : e.other ≠ p := (I.ou p e h hm).2
  have first : (steps (send s (gift p e)) (hearSteps s (gift p e))).1 = send (heardBy s p e) (answer (kindBy s e) p e) := by
    unfold hearSteps heardBy kindBy
    simp only []
    rw [if_pos (show (gift p e).kind = 0 from rfl)]
    show (steps _ (match entry s e.other e.id with | none => _ | some e => _)).1 = _
    cases entry s e.other e.id with
    | none => rw [steps_none2 (by exact ha) (by exact ha)]; rfl
    | some y => rw [steps_none1 (by exact ha)]; rfl
  have ent : entry (send (heardBy s p e) (answer (kindBy s e) p e)) p e.id = some e := by
    show entry (heardBy s p e) p e.id = some e
    unfold heardBy
    cases hq : entry s e.other e.id with
    | none =>
      simp only []
      have hl : e.other < s.papers.length := I.ot p e h
      show List.find? _ (paper (add (send s (gift p e)) e.other (paper s e.other).next { id := e.id, depot := e.depot, food := e.food, mark := .held, other := p }) p).entries = _
      rw [add_paper (by exact hl), if_neg (Ne.symm hne)]
      exact I.find h
    | some y => exact I.find h
  have har : (send (heardBy s p e) (answer (kindBy s e) p e)).armed = none := by
    unfold heardBy
    cases entry s e.other e.id <;> exact ha
  unfold roundStep
  simp only []
  show (match (steps (send s (gift p e)) (hearSteps s (gift p e))).1.air.getLast? with | none => _ | some r => _) = _
  have f2 : (steps (send s (gift p e)) (hearSteps s { kind := 0, sender := p, to := e.other, id := e.id, depot := e.depot, food := e.food })).1 = send (heardBy s p e) (answer (kindBy s e) p e) := first
  show (match (steps (send s (gift p e)) (hearSteps s (gift p e))).1.air.getLast? with | none => (steps (send s (gift p e)) (hearSteps s (gift p e))).1 | some r => (steps (steps (send s (gift p e)) (hearSteps s (gift p e))).1 (hearSteps (steps (send s (gift p e)) (hearSteps s (gift p e))).1 r)).1) = _
  rw [first]
  have la : (send (heardBy s p e) (answer (kindBy s e) p e)).air.getLast? = some (answer (kindBy s e) p e) := by
    show ((heardBy s p e).air ++ [answer (kindBy s e) p e]).getLast? = _
    simp
  rw [la]
  simp only []
  generalize hu : send (heardBy s p e) (answer (kindBy s e) p e) = u at ent har
  have hk : (answer (kindBy s e) p e).kind ≠ 0 ∧ (answer (kindBy s e) p e).kind ≠ 2 := by
    show kindBy s e ≠ 0 ∧ kindBy s e ≠ 2
    rcases kindBy_or s e with z | z <;> rw [z] <;> simp
  have hs : hearSteps u (answer (kindBy s e) p e) = [fun s' => mark s' p e.id (if kindBy s e = 1 then .gone else .held)] := by
    unfold hearSteps
    simp only []
    rw [if_neg hk.1, if_neg hk.2]
    show (match entry u p e.id with | none => _ | some e => _) = _
    rw [ent]
    simp only []
    rw [if_pos ⟨by rw [hm]; rfl, rfl⟩]
    rfl
  rw [hs, steps_none1 har]
theorem Inv.roundStep {s : St} (I : Inv s) {p : Nat} {e : Entry} (h : e ∈ (paper s p).entries) (hm : e.mark = .out) : Inv (RF.roundStep s (p, e)) := by
  have M := I.st.about h hm (k := 0) (.inl rfl)
  have I1 := I.send M
  have M1 : MsgOk (Vbexac.send s { kind := 0, sender := p, to := e.other, id := e.id, depot := e.depot, food := e.food }) { kind := 0, sender := p, to := e.other, id := e.id, depot := e.depot, food := e.food } := ⟨M.se, M.to, M.ok⟩
  have I2 : Inv (steps (Vbexac.send s { kind := 0, sender := p, to := e.other, id := e.id, depot := e.depot, food := e.food }) (Vbexac.hearSteps s { kind := 0, sender := p, to := e.other, id := e.id, depot := e.depot, food := e.food })).1 := I1.hearSteps M1
  unfold RF.roundStep
  simp only []
  split
  · exact I2
  · rename_i r hr
    exact I2.hearSteps (I2.st.ms r (List.mem_of_getLast? hr))
theorem roundStep_armed {s : St} {p : Nat} {e : Entry} (I : InvS s) (h : e ∈ (paper s p).entries) (hm : e.mark = .out) (ha : s.armed = none) : (roundStep s (p, e)).armed = none := by
  rw [roundStep_eq I h hm ha]
  show (heardBy s p e).armed = none
  unfold heardBy
  cases entry s e.other e.id <;> exact ha
theorem roundStep_keep {s : St} {p : Nat} {e : Entry} (I : InvS s) (h : e ∈ (paper s p).entries) (hm : e.mark = .out) (ha : s.armed = none) {q : Nat} {y : Entry} (hy : y ∈ (paper s q).entries) (n : ¬ (q = p ∧ y.id = e.id)) : y ∈ (paper (roundStep s (p, e)) q).entries := by
  rw [roundStep_eq I h hm ha]
  refine mark_still (s := send (heardBy s p e) (answer (kindBy s e) p e)) ?_ n
  show y ∈ (paper (heardBy s p e) q).entries
  unfold heardBy
  cases entry s e.other e.id with
  | none => exact (add_mem (s := send s (gift p e)) (I.ot p e h)).mpr (.inl hy)
  | some _ => exact hy
/-- all that's given: on whose paper, and what -/
theorem unsettled_mem {s : St} {x : Nat × Entry} : x ∈ unsettled s ↔ x.2 ∈ (paper s x.1).entries ∧ x.2.mark = .out := by
  unfold unsettled
  rw [List.mem_flatMap]
  constructor
  · rintro ⟨p, hp, h⟩
    obtain ⟨e, he, rfl⟩ := List.mem_map.mp h
    obtain ⟨h1, h2⟩ := List.mem_filter.mp he
    exact ⟨h1, is_iff.mp h2⟩
  · rintro ⟨h1, h2⟩
    exact ⟨x.1, List.mem_range.mpr (lt_of_mem h1), List.mem_map.mpr ⟨x.2, List.mem_filter.mpr ⟨h1, is_iff.mpr h2⟩, rfl⟩⟩
theorem unsettled_apart {s : St} (I : InvS s) : (unsettled s).Pairwise fun a b => ¬ (b.1 = a.1 ∧ b.2.id = a.2.id) := by
  unfold unsettled
  rw [List.pairwise_flatMap]
  refine ⟨fun p _ => ?_, ?_⟩
  · rw [List.pairwise_map]
    refine List.Pairwise.filter _ ?_
    have := I.uq p
    rw [List.Nodup, List.pairwise_map] at this
    exact this.imp fun h z => h z.2.symm
  · refine List.Pairwise.imp ?_ (List.nodup_range (n := s.papers.length))
    intro a b hab x hx y hy z
    obtain ⟨_, _, rfl⟩ := List.mem_map.mp hx
    obtain ⟨_, _, rfl⟩ := List.mem_map.mp hy
    exact hab z.1.symm
theorem round_inv : ∀ (l : List (Nat × Entry)) {t : St}, Inv t → t.armed = none → (∀ x ∈ l, x.2 ∈ (paper t x.1).entries ∧ x.2.mark = .out) → (l.Pairwise fun a b => ¬ (b.1 = a.1 ∧ b.2.id = a.2.id)) → Inv (l.foldl roundStep t) ∧ (l.foldl roundStep t).armed = none
  | [], _, I, ha, _, _ => ⟨I, ha⟩
  | x :: r, t, I, ha, h, pw => by
    obtain ⟨h1, h2⟩ := h x (by simp)
    rw [List.pairwise_cons] at pw
    rw [List.foldl_cons]
    exact round_inv r (I.roundStep h1 h2) (roundStep_armed I.st h1 h2 ha) (fun y hy => ⟨roundStep_keep I.st h1 h2 ha (h y (by simp [hy])).1 (pw.1 y hy), (h y (by simp [hy])).2⟩) pw.2
theorem Inv.goodRound {s : St} (I : Inv s) (ha : s.armed = none) : Inv (Vbexac.goodRound s) := by
  rw [goodRound_eq]
  exact (round_inv _ I ha (fun x hx => unsettled_mem.mp hx) (unsettled_apart I.st)).1
/-! ### every call -/
theorem lt_party {s : St} {p : Int} (h : ¬ (s.papers.length : Int) ≤ p) (h0 : 0 ≤ p) : p.toNat < s.papers.length := by omega
theorem Inv.act {s : St} (I : Inv s) (x : Call) (hr : ranged x = true) : Inv (act s x).1 := by
  have party : ∀ {p : Int} {k : Nat → St × List Int}, partyIn p = true → (p.toNat < s.papers.length → Inv (k p.toNat).1) → Inv (ofParty s p k).1 := fun {p k} hp h => by
    unfold ofParty
    split
    · exact I
    · rename_i z
      refine h (lt_party z ?_)
      unfold partyIn inR at hp
      simp at hp
      omega
  have ent : ∀ {p i : Int} {m : Mark} {k : Nat → Entry → St × List Int}, partyIn p = true → (∀ e, p.toNat < s.papers.length → e ∈ (paper s p.toNat).entries → e.id = i.toNat → e.mark = m → Inv (k p.toNat e).1) → Inv (ofEntry s p i m k).1 := fun {p i m k} hp h => by
    unfold ofEntry
    refine party hp fun hl => ?_
    cases q : entry s p.toNat i.toNat with
    | none => exact I
    | some e =>
      simp only []
      split
      · rename_i z
        exact h e hl (entry_mem q).1 (entry_mem q).2 (is_iff.mp z)
      · exact I
  have room1 : ∀ {p : Nat} {n : Nat}, ¬ room s p n = false → (paper s p).next + n ≤ 60 := fun h => by
    unfold room at h
    simp [NUMBERS] at h
    exact of_decide_eq_true h
  unfold Vbexac.act
  cases x with
  | begin_ a b => exact Inv.fresh_ _ _
  | come p d =>
    simp only [ranged, Bool.and_eq_true] at hr
    refine party hr.1 fun hl => ?_
    split
    · exact I
    · rename_i z
      exact I.come (by omega)
  | lay p n =>
    simp only [ranged, Bool.and_eq_true] at hr
    refine party hr.1 fun hl => ?_
    split
    · exact I
    · rename_i z
      split
      · exact I
      · rename_i z2
        split
        · exact I
        · simp only []
          rw [doSteps_fst]
          have hpl : place s p.toNat ≤ s.tins.length := by
            unfold place at z ⊢
            rw [List.getD_eq_getElem?_getD] at z ⊢
            cases q : s.places[p.toNat]? with
            | none => rw [q] at z; simp at z
            | some v => exact I.st.pc v (List.mem_of_getElem? q)
          exact I.laySteps hl (room1 z2) (by omega)
  | split p i n =>
    simp only [ranged, Bool.and_eq_true] at hr
    refine ent hr.1 fun e hl he hi hm => ?_
    split
    · exact I
    · rename_i z
      split
      · exact I
      · rename_i z2
        simp only []
        rw [doSteps_fst]
        refine chain I fun a => ?_
        refine chain_nil ?_
        have n1 : 1 ≤ n := by
          have := hr.2.2
          unfold inR at this
          simp at this
          exact this.1
        exact (I.armed a).split he hm (by omega) (room1 z2)
  | join p i j =>
    simp only [ranged, Bool.and_eq_true] at hr
    refine ent hr.1 fun e hl he hi hm => ?_
    have hj : ofEntry s (p.toNat : Int) j .held = ofEntry s (p.toNat : Int) j .held := rfl
    unfold ofEntry ofParty
    split
    · exact I
    · simp only []
      cases q : entry s (p.toNat : Int).toNat j.toNat with
      | none => exact I
      | some f =>
        simp only []
        split
        · rename_i y
          split
          · exact I
          · rename_i z
            split
            · exact I
            · rename_i z2
              rw [doSteps_fst]
              refine chain I fun a => ?_
              refine chain_nil ?_
              have q' := entry_mem q
              rw [Int.toNat_natCast] at q'
              exact ((I.armed a).join he hm q'.1 (is_iff.mp y) (fun w => z (.inl w)) (Decidable.byContradiction fun w => z (.inr w)) (room1 z2)).2.2
        · exact I
  | give p i q =>
    simp only [ranged, Bool.and_eq_true] at hr
    refine ent hr.1 fun e hl he hi hm => ?_
    split
    · exact I
    · rename_i z
      split
      · exact I
      · rename_i z2
        split
        · exact I
        · simp only []
          rw [doSteps_fst]
          have q0 : 0 ≤ q := by
            have := hr.2.2
            unfold partyIn inR at this
            simp at this
            exact this.1
          exact I.giveSteps he hm (by omega) (by omega) (room1 z2)
  | again p i =>
    simp only [ranged, Bool.and_eq_true] at hr
    refine ent hr.1 fun e hl he hi hm => ?_
    split
    · exact I
    · rw [doSteps_fst]
      refine chain I fun a => ?_
      exact chain_nil ((I.armed a).send ((I.armed a).st.about he hm (.inl rfl)))
  | ask p i =>
    simp only [ranged, Bool.and_eq_true] at hr
    refine ent hr.1 fun e hl he hi hm => ?_
    split
    · exact I
    · rw [doSteps_fst]
      refine chain I fun a => ?_
      exact chain_nil ((I.armed a).send ((I.armed a).st.about he hm (.inr rfl)))
  | hear m =>
    simp only []
    cases q : s.air[m.toNat]? with
    | none => exact I
    | some g =>
      simp only []
      split
      · exact I
      · rw [doSteps_fst]
        exact I.hearSteps (I.st.ms g (List.mem_of_getElem? q))
  | use p i =>
    simp only [ranged, Bool.and_eq_true] at hr
    refine ent hr.1 fun e hl he hi hm => ?_
    split
    · exact I
    · rw [doSteps_fst]
      exact I.useSteps he hm
  | look p =>
    simp only [ranged] at hr
    refine party hr fun hl => ?_
    split
    · exact I
    · simp only []
      rw [doSteps_fst]
      refine look_inv _ I (fun e he => (List.mem_filter.mp he).1) ?_
      have := I.st.uq p.toNat
      exact List.Nodup.sublist (List.Sublist.map _ List.filter_sublist) this
  | arm j => exact I.armed _
  | disarm => exact I.armed _
  | paper p =>
    simp only [ranged] at hr
    exact party hr fun hl => I
  | tin d => simp only []; split <;> exact I
  | counts p d =>
    simp only [ranged, Bool.and_eq_true] at hr
    refine party hr.1 fun hl => ?_
    split <;> exact I
  | message m => simp only []; cases s.air[m.toNat]? <;> exact I
  | audit d => simp only []; split <;> exact I
  | entry p i =>
    simp only [ranged, Bool.and_eq_true] at hr
    refine party hr.1 fun hl => ?_
    cases entry s p.toNat i.toNat <;> exact I
  | clear =>
    simp only []
    split
    · exact I
    · rename_i z
      split
      · exact I
      · refine I.goodRound ?_
        cases q : s.armed with
        | none => rfl
        | some v => rw [q] at z; simp at z
  | air => exact I
theorem Inv.step {s : St} (I : Inv s) (x : Call) : Inv (step s x).1 := by
  unfold Vbexac.step
  split
  · exact I
  · rename_i z
    have hr : ranged x = true := by simpa using z
    cases x with
    | begin_ a b => exact I.act _ hr
    | _ =>
      simp only []
      split
      · exact I
      · exact I.act _ hr
end RF
end
section
set_option linter.all false
set_option Elab.async false
namespace RF
/-! ### the request as calls -/
/-- a call's numbers -/
def narg (p : Int) : Nat := match p with
  | 0 => 2 | 1 => 2 | 2 => 2 | 3 => 3 | 4 => 3 | 5 => 3 | 6 => 2 | 7 => 2 | 8 => 1 | 9 => 2 | 10 => 1 | 11 => 1 | 12 => 0 | 13 => 1 | 14 => 1 | 15 => 2 | 16 => 1 | 17 => 1 | 18 => 2 | 19 => 0 | 20 => 0 | _ => 0
theorem shape_some {p : Int} {n k : Nat} (h : PyVbexac.shape p = some (n, k)) : 0 ≤ p ∧ p ≤ 20 ∧ n = narg p ∧ k = 0 := by
  unfold PyVbexac.shape at h
  by_cases e0 : p = 0
  · subst e0
    simp at h
    obtain ⟨rfl, rfl⟩ := h
    exact ⟨by decide, by decide, rfl, rfl⟩
  rw [if_neg e0] at h
  by_cases e1 : p = 1
  · subst e1
    simp at h
    obtain ⟨rfl, rfl⟩ := h
    exact ⟨by decide, by decide, rfl, rfl⟩
  rw [if_neg e1] at h
  by_cases e2 : p = 2
  · subst e2
    simp at h
    obtain ⟨rfl, rfl⟩ := h
    exact ⟨by decide, by decide, rfl, rfl⟩
  rw [if_neg e2] at h
  by_cases e3 : p = 3
  · subst e3
    simp at h
    obtain ⟨rfl, rfl⟩ := h
    exact ⟨by decide, by decide, rfl, rfl⟩
  rw [if_neg e3] at h
  by_cases e4 : p = 4
  · subst e4
    simp at h
    obtain ⟨rfl, rfl⟩ := h
    exact ⟨by decide, by decide, rfl, rfl⟩
  rw [if_neg e4] at h
  by_cases e5 : p = 5
  · subst e5
    simp at h
    obtain ⟨rfl, rfl⟩ := h
    exact ⟨by decide, by decide, rfl, rfl⟩
  rw [if_neg e5] at h
  by_cases e6 : p = 6
  · subst e6
    simp at h
    obtain ⟨rfl, rfl⟩ := h
    exact ⟨by decide, by decide, rfl, rfl⟩
  rw [if_neg e6] at h
  by_cases e7 : p = 7
  · subst e7
    simp at h
    obtain ⟨rfl, rfl⟩ := h
    exact ⟨by decide, by decide, rfl, rfl⟩
  rw [if_neg e7] at h
  by_cases e8 : p = 8
  · subst e8
    simp at h
    obtain ⟨rfl, rfl⟩ := h
    exact ⟨by decide, by decide, rfl, rfl⟩
  rw [if_neg e8] at h
  by_cases e9 : p = 9
  · subst e9
    simp at h
    obtain ⟨rfl, rfl⟩ := h
    exact ⟨by decide, by decide, rfl, rfl⟩
  rw [if_neg e9] at h
  by_cases e10 : p = 10
  · subst e10
    simp at h
    obtain ⟨rfl, rfl⟩ := h
    exact ⟨by decide, by decide, rfl, rfl⟩
  rw [if_neg e10] at h
  by_cases e11 : p = 11
  · subst e11
    simp at h
    obtain ⟨rfl, rfl⟩ := h
    exact ⟨by decide, by decide, rfl, rfl⟩
  rw [if_neg e11] at h
  by_cases e12 : p = 12
  · subst e12
    simp at h
    obtain ⟨rfl, rfl⟩ := h
    exact ⟨by decide, by decide, rfl, rfl⟩
  rw [if_neg e12] at h
  by_cases e13 : p = 13
  · subst e13
    simp at h
    obtain ⟨rfl, rfl⟩ := h
    exact ⟨by decide, by decide, rfl, rfl⟩
  rw [if_neg e13] at h
  by_cases e14 : p = 14
  · subst e14
    simp at h
    obtain ⟨rfl, rfl⟩ := h
    exact ⟨by decide, by decide, rfl, rfl⟩
  rw [if_neg e14] at h
  by_cases e15 : p = 15
  · subst e15
    simp at h
    obtain ⟨rfl, rfl⟩ := h
    exact ⟨by decide, by decide, rfl, rfl⟩
  rw [if_neg e15] at h
  by_cases e16 : p = 16
  · subst e16
    simp at h
    obtain ⟨rfl, rfl⟩ := h
    exact ⟨by decide, by decide, rfl, rfl⟩
  rw [if_neg e16] at h
  by_cases e17 : p = 17
  · subst e17
    simp at h
    obtain ⟨rfl, rfl⟩ := h
    exact ⟨by decide, by decide, rfl, rfl⟩
  rw [if_neg e17] at h
  by_cases e18 : p = 18
  · subst e18
    simp at h
    obtain ⟨rfl, rfl⟩ := h
    exact ⟨by decide, by decide, rfl, rfl⟩
  rw [if_neg e18] at h
  by_cases e19 : p = 19
  · subst e19
    simp at h
    obtain ⟨rfl, rfl⟩ := h
    exact ⟨by decide, by decide, rfl, rfl⟩
  rw [if_neg e19] at h
  by_cases e20 : p = 20
  · subst e20
    simp at h
    obtain ⟨rfl, rfl⟩ := h
    exact ⟨by decide, by decide, rfl, rfl⟩
  rw [if_neg e20] at h
  cases h
theorem range21 {p : Int} (h0 : 0 ≤ p) (h1 : p ≤ 20) : p = 0 ∨ p = 1 ∨ p = 2 ∨ p = 3 ∨ p = 4 ∨ p = 5 ∨ p = 6 ∨ p = 7 ∨ p = 8 ∨ p = 9 ∨ p = 10 ∨ p = 11 ∨ p = 12 ∨ p = 13 ∨ p = 14 ∨ p = 15 ∨ p = 16 ∨ p = 17 ∨ p = 18 ∨ p = 19 ∨ p = 20 := by omega
/-- one call taken off -/
theorem calls_step {f : Nat} {p : Int} {r : List Int} {raw : List (List (List Int))} (h : PyFlat.calls PyVbexac.shape f (p :: r) = some raw) :
    0 ≤ p ∧ p ≤ 20 ∧ narg p ≤ r.length ∧ ∃ raw' f', raw = [p :: r.take (narg p)] :: raw' ∧ PyFlat.calls PyVbexac.shape f' (r.drop (narg p)) = some raw' := by
  cases f with
  | zero => cases h
  | succ f =>
    rw [PyFlat.calls] at h
    unfold PyFlat.call at h
    simp only [] at h
    cases hs : PyVbexac.shape p with
    | none => rw [hs] at h; cases h
    | some nk =>
      obtain ⟨n, k⟩ := nk
      obtain ⟨h0, h1, rfl, rfl⟩ := shape_some hs
      rw [hs] at h
      simp only [] at h
      by_cases hl : r.length < narg p
      · rw [if_pos hl] at h; cases h
      · rw [if_neg hl] at h
        simp only [PyFlat.rows] at h
        cases hc : PyFlat.calls PyVbexac.shape f (r.drop (narg p)) with
        | none => rw [hc] at h; cases h
        | some raw' =>
          rw [hc] at h
          have e := Option.some.inj h
          exact ⟨h0, h1, by omega, raw', f, e.symm, hc⟩
theorem len1 {l : List Int} (h : l.length = 1) : ∃ a, l = [a] := match l, h with | [a], _ => ⟨a, rfl⟩
theorem len2 {l : List Int} (h : l.length = 2) : ∃ a b, l = [a, b] := match l, h with | [a, b], _ => ⟨a, b, rfl⟩
theorem len3 {l : List Int} (h : l.length = 3) : ∃ a b c, l = [a, b, c] := match l, h with | [a, b, c], _ => ⟨a, b, c, rfl⟩
theorem len0 {l : List Int} (h : l.length = 0) : l = [] := match l, h with | [], _ => rfl
/-- what a call's numbers stand for -/
def callOf (p : Int) (a : List Int) : Vbexac.Call := ((Vbexac.decode (p :: a))).getD .air
theorem whole_id {p : Int} {a : List Int} (h0 : 0 ≤ p) (h1 : p ≤ 20) (h : a.length = narg p) : PyVbexac.whole [p :: a] = [p :: a] ∧ Vbexac.decode (p :: a) = some (callOf p a) := by
  rcases range21 h0 h1 with rfl | rfl | rfl | rfl | rfl | rfl | rfl | rfl | rfl | rfl | rfl | rfl | rfl | rfl | rfl | rfl | rfl | rfl | rfl | rfl | rfl
  all_goals first
    | (obtain ⟨x, y, z, rfl⟩ := len3 h; exact ⟨rfl, rfl⟩)
    | (obtain ⟨x, y, rfl⟩ := len2 h; exact ⟨rfl, rfl⟩)
    | (obtain ⟨x, rfl⟩ := len1 h; exact ⟨rfl, rfl⟩)
    | (obtain rfl := len0 h; exact ⟨rfl, rfl⟩)
/-- what is still to be told -/
def toTell (s : Vbexac.St) (raw : List (List (List Int))) : List Int := PyFlat.told (PyFlat.played VbexacNeutral.step s (raw.map PyVbexac.whole))
theorem toTell_nil (s : Vbexac.St) : toTell s [] = [] := rfl
theorem toTell_cons {s : Vbexac.St} {p : Int} {a : List Int} {raw : List (List (List Int))} (h0 : 0 ≤ p) (h1 : p ≤ 20) (h : a.length = narg p) :
    toTell s ([p :: a] :: raw) = (((Vbexac.step s (callOf p a)).2.length : Int) :: (Vbexac.step s (callOf p a)).2) ++ toTell (Vbexac.step s (callOf p a)).1 raw := by
  obtain ⟨e1, e2⟩ := whole_id h0 h1 h
  unfold toTell
  rw [List.map_cons, e1]
  have e3 : VbexacNeutral.step s [p :: a] = Vbexac.step s (callOf p a) := by
    unfold VbexacNeutral.step VbexacNeutral.row Vbexac.does
    simp only []
    rw [e2]
  show PyFlat.told ((VbexacNeutral.step s [p :: a]).2 :: PyFlat.played VbexacNeutral.step (VbexacNeutral.step s [p :: a]).1 _) = _
  rw [e3]
  rfl
theorem toTell_len {s : Vbexac.St} {p : Int} {a : List Int} {raw : List (List (List Int))} (h0 : 0 ≤ p) (h1 : p ≤ 20) (h : a.length = narg p) :
    (toTell s ([p :: a] :: raw)).length = (Vbexac.step s (callOf p a)).2.length + 1 + (toTell (Vbexac.step s (callOf p a)).1 raw).length := by
  rw [toTell_cons h0 h1 h, List.length_append, List.length_cons]
/-- what is asked -/
theorem asked_some {l : List Int} (h : PyVbexac.answers_asked l = true) : ∃ raw, PyFlat.calls PyVbexac.shape l.length l = some raw ∧ raw.length ≤ 200 ∧ PyVbexac.answers l = toTell Vbexac.start raw ∧ (toTell Vbexac.start raw).length ≤ 10000000 := by
  unfold PyVbexac.answers_asked at h
  cases hc : PyFlat.calls PyVbexac.shape l.length l with
  | none => rw [hc] at h; cases h
  | some raw =>
    rw [hc] at h
    simp only [Bool.and_eq_true] at h
    obtain ⟨⟨⟨⟨_, h2⟩, _⟩, _⟩, h5⟩ := h
    have ea : PyVbexac.answers l = toTell Vbexac.start raw := by
      unfold PyVbexac.answers PyVbexac.calls
      rw [hc]
      rfl
    refine ⟨raw, rfl, ?_, ea, ?_⟩
    · unfold PyFlat.atMost at h2
      exact of_decide_eq_true h2
    · unfold PyFlat.short at h5
      rw [ea] at h5
      exact of_decide_eq_true h5
end RF
end
section
set_option linter.all false
set_option Elab.async false
namespace RF
open Vbexac
/-! ### how far a call lets lists grow -/
structure Gr (k j : Nat) (s t : St) : Prop where
  on : t.on = s.on
  pa : t.papers.length = s.papers.length
  en : ∀ p, (paper t p).entries.length ≤ (paper s p).entries.length + k
  la : ∀ d, (tin t d).laid.length ≤ (tin s d).laid.length + k
  us : ∀ d, (tin t d).used.length ≤ (tin s d).used.length + k
  ai : t.air.length ≤ s.air.length + j
theorem Gr.refl (s : St) : Gr 0 0 s s := ⟨rfl, rfl, fun _ => Nat.le_refl _, fun _ => Nat.le_refl _, fun _ => Nat.le_refl _, Nat.le_refl _⟩
theorem Gr.trans {k j k' j' : Nat} {s t u : St} (a : Gr k j s t) (b : Gr k' j' t u) : Gr (k + k') (j + j') s u :=
  ⟨b.on.trans a.on, b.pa.trans a.pa, fun p => by have := a.en p; have := b.en p; omega, fun d => by have := a.la d; have := b.la d; omega, fun d => by have := a.us d; have := b.us d; omega, by have := a.ai; have := b.ai; omega⟩
theorem Gr.mono {k j k' j' : Nat} {s t : St} (a : Gr k j s t) (h : k ≤ k') (h' : j ≤ j') : Gr k' j' s t :=
  ⟨a.on, a.pa, fun p => Nat.le_trans (a.en p) (by omega), fun d => Nat.le_trans (a.la d) (by omega), fun d => Nat.le_trans (a.us d) (by omega), Nat.le_trans a.ai (by omega)⟩
theorem Gr.armed (s : St) (a : Option Nat) : Gr 0 0 s { s with armed := a } := ⟨rfl, rfl, fun _ => Nat.le_refl _, fun _ => Nat.le_refl _, fun _ => Nat.le_refl _, Nat.le_refl _⟩
theorem Gr.cut (s : St) : Gr 0 0 s (RF.cut s).2 := by
  obtain ⟨a, e⟩ := cut_eq s
  rw [e]; exact Gr.armed s a
theorem Gr.setP {s : St} {p : Nat} {x : Paper} {k : Nat} (h : x.entries.length ≤ (paper s p).entries.length + k) : Gr k 0 s (setPaper s p x) := by
  refine ⟨rfl, by unfold setPaper; simp, fun q => ?_, fun _ => Nat.le_add_right _ _, fun _ => Nat.le_add_right _ _, Nat.le_refl _⟩
  rw [paper_set]
  split
  · rename_i z; rw [z.1]; exact h
  · exact Nat.le_add_right _ _
theorem Gr.mark (s : St) (p id : Nat) (m : Mark) : Gr 0 0 s (mark s p id m) := Gr.setP (by simp)
theorem Gr.write (s : St) (p : Nat) (e : Entry) : Gr 1 0 s (write s p e) := Gr.setP (by simp)
theorem Gr.writeNew (s : St) (p d f : Nat) (m : Mark) (o : Nat) : Gr 1 0 s (writeNew s p d f m o) := Gr.setP (by simp)
theorem Gr.send (s : St) (m : Message) : Gr 0 1 s (send s m) := ⟨rfl, rfl, fun _ => Nat.le_refl _, fun _ => Nat.le_refl _, fun _ => Nat.le_refl _, by show (s.air ++ [m]).length ≤ _; simp⟩
theorem Gr.setT {s : St} {d : Nat} {x : Tin} {k : Nat} {l : Nat} {ea : List Nat} (h : x.laid.length ≤ (tin s d).laid.length + k) (h' : x.used.length ≤ (tin s d).used.length + k) : Gr k 0 s { setTin s d x with laid := l, eaten := ea } := by
  refine ⟨rfl, rfl, fun _ => Nat.le_add_right _ _, fun c => ?_, fun c => ?_, Nat.le_refl _⟩
  · show (tin (setTin s d x) c).laid.length ≤ _
    rw [tin_set]; split
    · rename_i z; rw [z.1]; exact h
    · exact Nat.le_add_right _ _
  · show (tin (setTin s d x) c).used.length ≤ _
    rw [tin_set]; split
    · rename_i z; rw [z.1]; exact h'
    · exact Nat.le_add_right _ _
theorem Gr.steps : ∀ (l : List (St → St)) {s : St} {k j : Nat}, (∀ f ∈ l, ∀ t, Gr k j t (f t)) → Gr (k * l.length) (j * l.length) s (steps s l).1
  | [], s, k, j, _ => by rw [steps_nil]; exact (Gr.refl s).mono (Nat.zero_le _) (Nat.zero_le _)
  | f :: r, s, k, j, h => by
    rw [steps_cons]
    split
    · exact (Gr.cut s).mono (Nat.zero_le _) (Nat.zero_le _)
    · refine (((Gr.cut s).trans (h f (by simp) _)).trans (Gr.steps r fun g hg => h g (by simp [hg]))).mono ?_ ?_
      · rw [List.length_cons, Nat.mul_succ]; omega
      · rw [List.length_cons, Nat.mul_succ]; omega
theorem Gr.oneS {t : St} {g : St → St} (h : ∀ u, Gr 0 1 u (g u)) : Gr 0 1 t (Vbexac.steps t [g]).1 := (Gr.steps [g] (k := 0) (j := 1) fun f hf => by
  simp at hf
  subst hf
  exact h).mono (by simp) (by simp)
/-- two small steps, the second of which sends -/
theorem Gr.hear {s : St} {m : Message} : Gr 2 1 s (Vbexac.steps s (hearSteps s m)).1 := by
  have two : ∀ {f g : St → St}, (∀ t, Gr 1 0 t (f t)) → (∀ t, Gr 0 1 t (g t)) → Gr 2 1 s (Vbexac.steps s [f, g]).1 := fun {f g} hf hg => by
    rw [steps_cons]
    split
    · exact (Gr.cut s).mono (by omega) (by omega)
    · refine (((Gr.cut s).trans (hf _)).trans (Gr.steps [g] (k := 0) (j := 1) fun h hh => ?_)).mono (by simp) (by simp)
      simp at hh
      subst hh
      exact hg
  have one : ∀ {g : St → St}, (∀ t, Gr 0 1 t (g t)) → Gr 2 1 s (Vbexac.steps s [g]).1 := fun {g} hg => (Gr.steps [g] (k := 0) (j := 1) fun h hh => by
    simp at hh
    subst hh
    exact hg).mono (by simp) (by simp)
  unfold hearSteps
  simp only []
  by_cases k0 : m.kind = 0
  · rw [if_pos k0]
    cases entry s m.to m.id with
    | none => exact two (fun t => Gr.write t _ _) fun t => Gr.send t _
    | some e => exact one fun t => Gr.send t _
  · rw [if_neg k0]
    by_cases k2 : m.kind = 2
    · rw [if_pos k2]
      cases entry s m.to m.id with
      | none => exact two (fun t => Gr.write t _ _) fun t => Gr.send t _
      | some e => exact one fun t => Gr.send t _
    · rw [if_neg k2]
      cases entry s m.to m.id with
      | none => exact (Gr.refl s).mono (by omega) (by omega)
      | some e =>
        simp only []
        split
        · exact one fun t => (Gr.mark t _ _ _).mono (by omega) (by omega)
        · exact (Gr.refl s).mono (by omega) (by omega)
theorem Gr.round {s : St} {x : Nat × Entry} : Gr 4 3 s (roundStep s x) := by
  unfold roundStep
  simp only []
  have a : Gr 2 2 s (Vbexac.steps (Vbexac.send s { kind := 0, sender := x.1, to := x.2.other, id := x.2.id, depot := x.2.depot, food := x.2.food }) (hearSteps s { kind := 0, sender := x.1, to := x.2.other, id := x.2.id, depot := x.2.depot, food := x.2.food })).1 := by
    have := (Gr.send s { kind := 0, sender := x.1, to := x.2.other, id := x.2.id, depot := x.2.depot, food := x.2.food }).trans (Gr.hear (s := Vbexac.send s { kind := 0, sender := x.1, to := x.2.other, id := x.2.id, depot := x.2.depot, food := x.2.food }) (m := { kind := 0, sender := x.1, to := x.2.other, id := x.2.id, depot := x.2.depot, food := x.2.food }))
    exact this.mono (by omega) (by omega)
  split
  · exact a.mono (by omega) (by omega)
  · exact (a.trans Gr.hear).mono (by omega) (by omega)
theorem Gr.rounds : ∀ (l : List (Nat × Entry)) {s : St}, Gr (4 * l.length) (3 * l.length) s (l.foldl roundStep s)
  | [], s => Gr.refl s
  | x :: r, s => by
    rw [List.foldl_cons]
    exact (Gr.round.trans (Gr.rounds r)).mono (by rw [List.length_cons]; omega) (by rw [List.length_cons]; omega)
theorem heardBy_air (s : St) (p : Nat) (e : Entry) : (heardBy s p e).air.length = s.air.length + 1 := by
  have g : (Vbexac.send s (gift p e)).air.length = s.air.length + 1 := by show (s.air ++ [_]).length = _; simp
  unfold heardBy
  cases entry s e.other e.id with
  | none => exact g
  | some _ => exact g
theorem round_air : ∀ (l : List (Nat × Entry)) {t : St}, Inv t → t.armed = none → (∀ x ∈ l, x.2 ∈ (paper t x.1).entries ∧ x.2.mark = .out) → (l.Pairwise fun a b => ¬ (b.1 = a.1 ∧ b.2.id = a.2.id)) → (l.foldl roundStep t).air.length = t.air.length + 2 * l.length
  | [], _, I, ha, _, _ => rfl
  | x :: r, t, I, ha, h, pw => by
    obtain ⟨h1, h2⟩ := h x (by simp)
    rw [List.pairwise_cons] at pw
    rw [List.foldl_cons, round_air r (I.roundStep h1 h2) (roundStep_armed I.st h1 h2 ha) (fun y hy => ⟨roundStep_keep I.st h1 h2 ha (h y (by simp [hy])).1 (pw.1 y hy), (h y (by simp [hy])).2⟩) pw.2]
    rw [show x = (x.1, x.2) from rfl, roundStep_eq I.st h1 h2 ha]
    show ((heardBy t x.1 x.2).air ++ [_]).length + 2 * r.length = _
    rw [List.length_append, heardBy_air, List.length_cons]
    simp
    omega
/-! ### sizes, and what has begun -/
structure Size (b : Nat) (s : St) : Prop where
  en : ∀ p, (paper s p).entries.length ≤ b
  la : ∀ d, (tin s d).laid.length ≤ b
  us : ∀ d, (tin s d).used.length ≤ b
  ai : s.air.length ≤ 400
  on : s.on = true ↔ s.papers.length ≠ 0
  pa : s.papers.length ≤ 6
theorem Size.gr {b k j : Nat} {s t : St} (z : Size b s) (g : Gr k j s t) (h : s.air.length + j ≤ 400) : Size (b + k) t :=
  ⟨fun p => by have := z.en p; have := g.en p; omega, fun d => by have := z.la d; have := g.la d; omega, fun d => by have := z.us d; have := g.us d; omega, Nat.le_trans g.ai h, by rw [g.on, g.pa]; exact z.on, by rw [g.pa]; exact z.pa⟩
theorem Size.mono {b b' : Nat} {s : St} (z : Size b s) (h : b ≤ b') : Size b' s := ⟨fun p => Nat.le_trans (z.en p) h, fun d => Nat.le_trans (z.la d) h, fun d => Nat.le_trans (z.us d) h, z.ai, z.on, z.pa⟩
theorem Size.start_ : Size 0 start := by
  refine ⟨fun p => ?_, fun d => ?_, fun d => ?_, by simp [start], by simp [start], by simp [start]⟩
  · unfold paper start; simp
  · unfold tin start; simp
  · unfold tin start; simp
theorem Size.act {b : Nat} {s : St} (z : Size b s) (I : Inv s) (x : Call) (hr : ranged x = true) : Size (b + 1000) (act s x).1 := by
  have keep : Size (b + 1000) s := z.mono (by omega)
  have fin : ∀ {t : St} {k : Nat}, Gr k 0 s t → k ≤ 1000 → Size (b + 1000) t := fun g h => (z.gr g (by have := z.ai; omega)).mono (by omega)
  have fin1 : ∀ {t : St} {k : Nat}, Gr k 1 s t → k ≤ 1000 → ¬ full s 1 = true → Size (b + 1000) t := fun g h h2 => (z.gr g (by
    unfold full MESSAGES at h2
    simp at h2
    omega)).mono (by omega)
  have finS : ∀ {l : List (St → St)} (k : Nat), (∀ f ∈ l, ∀ t, Gr k 0 t (f t)) → k * l.length ≤ 1000 → Size (b + 1000) (Vbexac.steps s l).1 := fun {l} k h hk => fin ((Gr.steps l h).mono (Nat.le_refl _) (by rw [Nat.zero_mul]; exact Nat.le_refl _)) hk
  have finS1 : ∀ {l : List (St → St)}, (∀ f ∈ l, ∀ t, Gr 0 1 t (f t)) → l.length ≤ 1 → ¬ full s 1 = true → Size (b + 1000) (Vbexac.steps s l).1 := fun {l} h hk hf => fin1 (k := 0) ((Gr.steps l h).mono (by omega) (by omega)) (by omega) hf
  have party : ∀ {p : Int} {k : Nat → St × List Int}, Size (b + 1000) (k p.toNat).1 → Size (b + 1000) (ofParty s p k).1 := fun {p k} h => by
    unfold ofParty
    split
    · exact keep
    · exact h
  have ent : ∀ {p i : Int} {m : Mark} {k : Nat → Entry → St × List Int}, (∀ e, Size (b + 1000) (k p.toNat e).1) → Size (b + 1000) (ofEntry s p i m k).1 := fun {p i m k} h => by
    unfold ofEntry
    refine party ?_
    cases entry s p.toNat i.toNat with
    | none => exact keep
    | some e =>
      simp only []
      split
      · exact h e
      · exact keep
  unfold Vbexac.act
  cases x with
  | begin_ a c =>
    have hp : ∀ p, ((List.replicate a.toNat ({} : Paper)).getD p {}).entries.length = 0 := fun p => by
      rw [List.getD_eq_getElem?_getD, List.getElem?_replicate]; split <;> rfl
    have ht : ∀ p, (List.replicate c.toNat ({} : Tin)).getD p {} = {} := fun p => by
      rw [List.getD_eq_getElem?_getD, List.getElem?_replicate]; split <;> rfl
    refine ⟨fun p => ?_, fun d => ?_, fun d => ?_, Nat.zero_le _, ?_, by
      show (List.replicate a.toNat ({} : Paper)).length ≤ 6
      rw [List.length_replicate]
      unfold ranged inR at hr
      simp at hr
      omega⟩
    · show ((List.replicate a.toNat ({} : Paper)).getD p {}).entries.length ≤ _
      rw [hp]; omega
    · show ((List.replicate c.toNat ({} : Tin)).getD d {}).laid.length ≤ _
      rw [ht]; exact Nat.zero_le _
    · show ((List.replicate c.toNat ({} : Tin)).getD d {}).used.length ≤ _
      rw [ht]; exact Nat.zero_le _
    · show true = true ↔ (List.replicate a.toNat ({} : Paper)).length ≠ 0
      rw [List.length_replicate]
      simp only [ranged, inR, Bool.and_eq_true, decide_eq_true_iff] at hr
      constructor
      · intro _; omega
      · intro _; rfl
  | come p d =>
    refine party ?_
    split
    · exact keep
    · exact fin (k := 0) ⟨rfl, rfl, fun _ => Nat.le_refl _, fun _ => Nat.le_refl _, fun _ => Nat.le_refl _, Nat.le_refl _⟩ (by omega)
  | lay p n =>
    refine party ?_
    split
    · exact keep
    · split
      · exact keep
      · split
        · exact keep
        · simp only []
          rw [doSteps_fst]
          refine finS 1 (fun f hf t => ?_) (by show 1 * 3 ≤ 1000; decide)
          unfold laySteps at hf
          simp at hf
          rcases hf with rfl | rfl | rfl
          · exact Gr.writeNew t _ _ _ _ _
          · exact Gr.setT (ea := t.eaten) (by simp) (by simp)
          · exact (Gr.mark t _ _ _).mono (by omega) (by omega)
  | split p i n =>
    refine ent fun e => ?_
    split
    · exact keep
    · split
      · exact keep
      · simp only []
        rw [doSteps_fst]
        refine finS 2 (fun f hf t => ?_) (by show 2 * 1 ≤ 1000; decide)
        simp at hf
        subst hf
        exact ((Gr.mark t _ _ _).trans (Gr.writeNew _ _ _ _ _ _)).trans (Gr.writeNew _ _ _ _ _ _)
  | join p i j =>
    refine ent fun e => ?_
    refine ent fun f => ?_
    split
    · exact keep
    · split
      · exact keep
      · simp only []
        rw [doSteps_fst]
        refine finS 1 (fun f hf t => ?_) (by show 1 * 1 ≤ 1000; decide)
        simp at hf
        subst hf
        exact ((Gr.mark t _ _ _).trans (Gr.mark _ _ _ _)).trans (Gr.writeNew _ _ _ _ _ _)
  | give p i q =>
    refine ent fun e => ?_
    split
    · exact keep
    · split
      · exact keep
      · split
        · exact keep
        · rename_i hf1
          simp only []
          rw [doSteps_fst]
          unfold giveSteps
          rw [steps_cons]
          split
          · exact fin (Gr.cut s) (by omega)
          · exact fin1 (((Gr.cut s).trans ((Gr.mark _ _ _ _).trans (Gr.writeNew _ _ _ _ _ _))).trans (Gr.oneS fun t => Gr.send t _)) (by omega) hf1
  | again p i =>
    refine ent fun e => ?_
    split
    · exact keep
    · rename_i hf1
      rw [doSteps_fst]
      refine finS1 (fun f hf t => ?_) (by simp) hf1
      simp at hf
      subst hf
      exact Gr.send t _
  | ask p i =>
    refine ent fun e => ?_
    split
    · exact keep
    · rename_i hf1
      rw [doSteps_fst]
      refine finS1 (fun f hf t => ?_) (by simp) hf1
      simp at hf
      subst hf
      exact Gr.send t _
  | hear m =>
    simp only []
    cases s.air[m.toNat]? with
    | none => exact keep
    | some g =>
      simp only []
      split
      · exact keep
      · rename_i hf1
        rw [doSteps_fst]
        exact fin1 Gr.hear (by omega) hf1
  | use p i =>
    refine ent fun e => ?_
    split
    · exact keep
    · rw [doSteps_fst]
      refine finS 1 (fun f hf t => ?_) (by show 1 * 3 ≤ 1000; decide)
      unfold useSteps at hf
      simp at hf
      rcases hf with rfl | rfl | rfl
      · exact (Gr.mark t _ _ _).mono (by omega) (by omega)
      · exact Gr.setT (l := t.laid) (by simp) (by simp)
      · exact (Gr.mark t _ _ _).mono (by omega) (by omega)
  | look p =>
    refine party ?_
    split
    · exact keep
    · simp only []
      rw [doSteps_fst]
      refine finS 0 (fun f hf t => ?_) (by rw [Nat.zero_mul]; exact Nat.zero_le _)
      obtain ⟨e, _, he⟩ := List.mem_flatMap.mp hf
      unfold resolve at he
      split at he
      · simp at he
      · split at he
        · simp at he; subst he; exact Gr.mark t _ _ _
        · split at he
          · simp at he; subst he; exact Gr.mark t _ _ _
          · simp at he
  | arm j => exact fin (Gr.armed s _) (by omega)
  | disarm => exact fin (Gr.armed s _) (by omega)
  | paper p => exact party keep
  | tin d => simp only []; split <;> exact keep
  | counts p d =>
    refine party ?_
    split <;> exact keep
  | message m => simp only []; cases s.air[m.toNat]? <;> exact keep
  | audit d => simp only []; split <;> exact keep
  | entry p i =>
    refine party ?_
    cases entry s p.toNat i.toNat <;> exact keep
  | clear =>
    simp only []
    split
    · exact keep
    · rename_i hz
      split
      · exact keep
      · rename_i hf2
        have ha : s.armed = none := by
          cases q : s.armed with
          | none => rfl
          | some v => rw [q] at hz; simp at hz
        have hl : 2 * (unsettled s).length + s.air.length ≤ 400 := by
          unfold full MESSAGES at hf2
          simp at hf2
          omega
        have g := Gr.rounds (unsettled s) (s := s)
        have ra := round_air (unsettled s) I ha (fun x hx => unsettled_mem.mp hx) (unsettled_apart I.st)
        rw [← goodRound_eq] at g ra
        exact ⟨fun p => by have := z.en p; have := g.en p; show (Vbexac.paper (goodRound s) p).entries.length ≤ _; omega, fun d => by have := z.la d; have := g.la d; show (Vbexac.tin (goodRound s) d).laid.length ≤ _; omega, fun d => by have := z.us d; have := g.us d; show (Vbexac.tin (goodRound s) d).used.length ≤ _; omega, by show (goodRound s).air.length ≤ 400; omega, by show (goodRound s).on = true ↔ (goodRound s).papers.length ≠ 0; rw [g.on, g.pa]; exact z.on, by show (goodRound s).papers.length ≤ 6; rw [g.pa]; exact z.pa⟩
  | air => exact keep
theorem Size.step {b : Nat} {s : St} (z : Size b s) (I : Inv s) (x : Call) : Size (b + 1000) (step s x).1 := by
  have keep : Size (b + 1000) s := z.mono (by omega)
  unfold Vbexac.step
  split
  · exact keep
  · rename_i h
    have hr : ranged x = true := by simpa using h
    cases x with
    | begin_ a c => exact z.act I _ hr
    | _ =>
      simp only []
      split
      · exact keep
      · exact z.act I _ hr
end RF
end
section
set_option linter.all false
set_option Elab.async false
namespace RF
open Vbexac
/-! ### all entries, with their places -/
def allE (s : St) (n : Nat) : List (Nat × (Entry × Nat)) := (List.range n).flatMap fun p => (paper s p).entries.zipIdx.map fun x => (p, x)
theorem allE_zero (s : St) : allE s 0 = [] := rfl
theorem allE_succ (s : St) (n : Nat) : allE s (n + 1) = allE s n ++ (paper s n).entries.zipIdx.map fun x => (n, x) := by
  unfold allE
  rw [List.range_succ, List.flatMap_append, List.flatMap_singleton]
theorem allE_len {s : St} {b : Nat} (h : ∀ p, (paper s p).entries.length ≤ b) : ∀ n, (allE s n).length ≤ n * b
  | 0 => by rw [allE_zero]; exact Nat.zero_le _
  | n + 1 => by
    have := allE_len h n
    have := h n
    rw [allE_succ, List.length_append, List.length_map, List.length_zipIdx, Nat.add_mul, Nat.one_mul]
    omega
theorem allE_mem {s : St} {n : Nat} {y : Nat × (Entry × Nat)} (h : y ∈ allE s n) : y.1 < n ∧ (paper s y.1).entries[y.2.2]? = some y.2.1 := by
  unfold allE at h
  obtain ⟨p, hp, h⟩ := List.mem_flatMap.mp h
  obtain ⟨x, hx, rfl⟩ := List.mem_map.mp h
  rw [List.mem_zipIdx_iff_getElem?] at hx
  exact ⟨List.mem_range.mp hp, hx⟩
theorem zip_fst {α : Type} : ∀ (l : List α) (n : Nat), (l.zipIdx n).map Prod.fst = l
  | [], _ => rfl
  | x :: r, n => by rw [List.zipIdx_cons, List.map_cons, zip_fst r]
theorem papers_range (s : St) : s.papers = (List.range s.papers.length).map (paper s) := by
  apply List.ext_getElem?
  intro i
  rw [List.getElem?_map]
  by_cases h : i < s.papers.length
  · rw [paper_some h, List.getElem?_range h]; rfl
  · rw [List.getElem?_eq_none (by omega), List.getElem?_eq_none (by rw [List.length_range]; omega)]; rfl
theorem allE_all (s : St) : (allE s s.papers.length).map (fun y => y.2.1) = allEntries s := by
  have h : allEntries s = ((List.range s.papers.length).map (paper s)).flatMap fun x => x.entries := by
    rw [← papers_range]; rfl
  rw [h]
  unfold allE
  generalize List.range s.papers.length = l
  induction l with
  | nil => rfl
  | cons p r ih =>
    rw [List.flatMap_cons, List.map_append, ih, List.map_cons, List.flatMap_cons, List.map_map]
    congr 1
    exact zip_fst _ 0
theorem allE_gifts (s : St) : ((allE s s.papers.length).filter fun y => is y.2.1.mark .out).map (fun y => (y.1, y.2.1)) = unsettled s := by
  unfold allE unsettled
  generalize List.range s.papers.length = l
  induction l with
  | nil => rfl
  | cons p r ih =>
    rw [List.flatMap_cons, List.filter_append, List.map_append, ih, List.flatMap_cons]
    congr 1
    rw [List.filter_map, List.map_map]
    have : ∀ (l : List Entry) (n : Nat), ((l.zipIdx n).filter ((fun y : Nat × (Entry × Nat) => is y.2.1.mark .out) ∘ fun x => (p, x))).map ((fun y : Nat × (Entry × Nat) => (y.1, y.2.1)) ∘ fun x => (p, x)) = (l.filter fun e => is e.mark .out).map fun e => (p, e) := by
      intro l
      induction l with
      | nil => intro n; rfl
      | cons e r ih =>
        intro n
        rw [List.zipIdx_cons, List.filter_cons, List.filter_cons]
        show (if is e.mark .out = true then _ else _ : List _).map _ = _
        split
        · rw [List.map_cons, List.map_cons, ih]; rfl
        · exact ih _
    exact this _ 0
theorem filter_map' {α β : Type} (h : α → β) (g : β → Bool) (l : List α) : (l.filter fun y => g (h y)).map h = (l.map h).filter g := by
  rw [List.filter_map]; rfl
theorem audit_alive (s : St) (d : Nat) (g : Entry → Bool) : (((allE s s.papers.length).filter fun y => y.2.1.depot == d).filter fun y => g y.2.1).map (fun y => y.2.1) = ((allEntries s).filter fun e => e.depot == d).filter g := by
  rw [filter_map' (fun y : Nat × (Entry × Nat) => y.2.1) g, filter_map' (fun y : Nat × (Entry × Nat) => y.2.1) (fun e => e.depot == d), allE_all]
/-! ### sums -/
theorem sumFood_cons (e : Entry) (l : List Entry) : sumFood (e :: l) = e.food + sumFood l := rfl
theorem sumFood_append : ∀ a b : List Entry, sumFood (a ++ b) = sumFood a + sumFood b
  | [], b => by rw [List.nil_append]; show _ = 0 + _; omega
  | e :: r, b => by rw [List.cons_append, sumFood_cons, sumFood_cons, sumFood_append r b]; omega
theorem sumFood_one (e : Entry) : sumFood [e] = e.food := rfl
theorem sum_cast : ∀ l : List Entry, (l.map fun e => (e.food : Int)).sum = (sumFood l : Int)
  | [] => rfl
  | e :: r => by
    rw [List.map_cons, List.sum_cons, sum_cast r, sumFood_cons]
    omega
theorem rows_len : ∀ l : List Entry, (l.flatMap entryRow).length = 5 * l.length
  | [] => rfl
  | e :: r => by
    rw [List.flatMap_cons, List.length_append, rows_len r, List.length_cons]
    show 5 + 5 * r.length = _
    omega
/-! ### a gift is settled -/
theorem first_heard {s : St} {p : Nat} {e : Entry} (ha : s.armed = none) : steps (send s (gift p e)) (hearSteps (send s (gift p e)) (gift p e)) = (send (heardBy s p e) (answer (kindBy s e) p e), true) := by
  show steps (send s (gift p e)) (hearSteps s (gift p e)) = _
  unfold hearSteps heardBy kindBy
  simp only []
  rw [if_pos (show (gift p e).kind = 0 from rfl)]
  show steps _ (match entry s e.other e.id with | none => _ | some e => _) = _
  cases entry s e.other e.id with
  | none => rw [steps_none2 (by exact ha) (by exact ha)]; rfl
  | some y => rw [steps_none1 (by exact ha)]; rfl
theorem second_heard {s : St} {p : Nat} {e : Entry} (ha : s.armed = none) : roundStep s (p, e) = (steps (send (heardBy s p e) (answer (kindBy s e) p e)) (hearSteps (send (heardBy s p e) (answer (kindBy s e) p e)) (answer (kindBy s e) p e))).1 := by
  have first : (steps (send s (gift p e)) (hearSteps s (gift p e))).1 = send (heardBy s p e) (answer (kindBy s e) p e) := by
    have := first_heard (p := p) (e := e) ha
    exact congrArg Prod.fst this
  unfold roundStep
  simp only []
  show (match (steps (send s (gift p e)) (hearSteps s (gift p e))).1.air.getLast? with | none => (steps (send s (gift p e)) (hearSteps s (gift p e))).1 | some r => (steps (steps (send s (gift p e)) (hearSteps s (gift p e))).1 (hearSteps (steps (send s (gift p e)) (hearSteps s (gift p e))).1 r)).1) = _
  rw [first]
  have la : (send (heardBy s p e) (answer (kindBy s e) p e)).air.getLast? = some (answer (kindBy s e) p e) := by
    show ((heardBy s p e).air ++ [answer (kindBy s e) p e]).getLast? = _
    simp
  rw [la]
theorem Inv.first {s : St} (I : Inv s) {p : Nat} {e : Entry} (h : e ∈ (paper s p).entries) (hm : e.mark = .out) : Inv (Vbexac.send s (gift p e)) := I.send (I.st.about h hm (k := 0) (.inl rfl))
theorem Inv.second {s : St} (I : Inv s) {p : Nat} {e : Entry} (h : e ∈ (paper s p).entries) (hm : e.mark = .out) (ha : s.armed = none) : Inv (Vbexac.send (heardBy s p e) (answer (kindBy s e) p e)) := by
  have M := I.st.about h hm (k := 0) (.inl rfl)
  have I1 := I.first h hm
  have M1 : MsgOk (Vbexac.send s (gift p e)) (gift p e) := ⟨M.se, M.to, M.ok⟩
  have := I1.hearSteps M1
  rw [first_heard ha] at this
  exact this
theorem roundStep_get {s : St} {p : Nat} {e : Entry} (I : InvS s) (h : e ∈ (paper s p).entries) (hm : e.mark = .out) (ha : s.armed = none) {q j : Nat} {y : Entry} (hy : (paper s q).entries[j]? = some y) (n : ¬ (q = p ∧ y.id = e.id)) : (paper (roundStep s (p, e)) q).entries[j]? = some y := by
  rw [roundStep_eq I h hm ha, mark_paper.2, List.getElem?_map]
  have : (paper (send (heardBy s p e) (answer (kindBy s e) p e)) q).entries[j]? = some y := by
    show (paper (heardBy s p e) q).entries[j]? = some y
    unfold heardBy
    cases entry s e.other e.id with
    | none =>
      simp only []
      show (paper (add (send s (gift p e)) e.other (paper s e.other).next { id := e.id, depot := e.depot, food := e.food, mark := .held, other := p }) q).entries[j]? = some y
      rw [add_paper (by exact I.ot p e h)]
      split
      · rename_i z
        rw [← z]
        exact (List.getElem?_append_left (List.getElem?_eq_some_iff.mp hy).1).trans hy
      · exact hy
    | some _ => exact hy
  rw [this]
  show some (up p e.id _ q y) = some y
  rw [up_same n]
theorem doSteps_true {s : St} {l : List (St → St)} {ok : St → List Int} (h : (steps s l).2 = true) : doSteps s l ok = ((steps s l).1, 0 :: ok (steps s l).1) := by
  unfold doSteps
  simp only []
  rw [if_pos h]
end RF
end
section
set_option linter.all false
set_option Elab.async false
set_option maxRecDepth 100000
set_option maxHeartbeats 2000000
namespace RF
open PySem PySem.Spec PyProof.Rows L2
/-! ### the objects -/
inductive Role where
  | world | lp | lt | lm
  | party (i : Nat) | elist (i : Nat) | entry (i j : Nat)
  | tin (d : Nat) | laid (d : Nat) | used (d : Nat) | msg (k : Nat)
  deriving DecidableEq
/-- the classes' addresses -/
structure Cs where
  E : Addr
  P : Addr
  T : Addr
  M : Addr
  W : Addr
  R : Addr
/-- a view: where the objects and their dicts lie, and what they stand for -/
structure Vw where
  G : Role → Addr
  D : Role → Addr
  s : Vbexac.St
def armedI : Option Nat → Int
  | none => -1
  | some k => k
def eF (e : Vbexac.Entry) : List (Str × V) := [("number", .int e.id), ("depot", .int e.depot), ("rations", .int e.food), ("mark", .int (Vbexac.markNumber e.mark)), ("other", .int e.other)]
def pF (who place made : Int) (l : Addr) (eaten : Int) : List (Str × V) := [("who", .int who), ("place", .int place), ("made", .int made), ("entries", .ref l), ("eaten", .int eaten)]
def tF (food : Int) (l u : Addr) : List (Str × V) := [("food", .int food), ("laid", .ref l), ("used", .ref u)]
def mF (m : Vbexac.Message) : List (Str × V) := [("kind", .int m.kind), ("sender", .int m.sender), ("receiver", .int m.to), ("number", .int m.id), ("depot", .int m.depot), ("rations", .int m.food)]
def wF (p t m : Addr) (armed laid : Int) : List (Str × V) := [("parties", .ref p), ("tins", .ref t), ("messages", .ref m), ("armed", .int armed), ("rations_laid", .int laid)]
def natsV (l : List Nat) : List V := l.map fun (n : Nat) => V.int n
def refsV (n : Nat) (f : Nat → Addr) : List V := (List.range n).map fun i => V.ref (f i)
/-- what stands at a role -/
def cont (C : Cs) (v : Vw) : Role → Option HO
  | .world => some (.ins C.W (v.D .world) (wF (v.G .lp) (v.G .lt) (v.G .lm) (armedI v.s.armed) v.s.laid))
  | .lp => some (.lst (refsV v.s.papers.length fun i => v.G (.party i)))
  | .lt => some (.lst (refsV v.s.tins.length fun i => v.G (.tin i)))
  | .lm => some (.lst (refsV v.s.air.length fun i => v.G (.msg i)))
  | .party i => if i < v.s.papers.length then some (.ins C.P (v.D (.party i)) (pF i ((Vbexac.place v.s i : Int) - 1) (Vbexac.paper v.s i).next (v.G (.elist i)) (v.s.eaten.getD i 0 : Nat))) else none
  | .elist i => if i < v.s.papers.length then some (.lst (refsV (Vbexac.paper v.s i).entries.length fun j => v.G (.entry i j))) else none
  | .entry i j => ((Vbexac.paper v.s i).entries[j]?).map fun e => .ins C.E (v.D (.entry i j)) (eF e)
  | .tin d => if d < v.s.tins.length then some (.ins C.T (v.D (.tin d)) (tF (Vbexac.tin v.s d).food (v.G (.laid d)) (v.G (.used d)))) else none
  | .laid d => if d < v.s.tins.length then some (.lst (natsV (Vbexac.tin v.s d).laid)) else none
  | .used d => if d < v.s.tins.length then some (.lst (natsV (Vbexac.tin v.s d).used)) else none
  | .msg k => (v.s.air[k]?).map fun m => .ins C.M (v.D (.msg k)) (mF m)
structure At (C : Cs) (v : Vw) (H : Hp) : Prop where
  is : ∀ r o, cont C v r = some o → H (v.G r) = some o
  inj : ∀ r r' o o', cont C v r = some o → cont C v r' = some o' → v.G r = v.G r' → r = r'
def Foot (C : Cs) (v : Vw) (b : Addr) : Prop := ∃ r o, cont C v r = some o ∧ v.G r = b
/-- from one heap to a later one: what is not the world's is kept; the world has grown by new objects alone -/
structure Ext (C : Cs) (v : Vw) (H : Hp) (v' : Vw) (H' : Hp) : Prop where
  keep : ∀ b o, H b = some o → ¬ Foot C v b → H' b = some o
  grow : ∀ b, Foot C v' b → Foot C v b ∨ H b = none
  live : ∀ b, H' b = none → H b = none
theorem upd_none {H : Hp} {a b : Addr} {o : HO} (h : upd H a o b = none) : H b = none := by
  unfold upd at h
  split at h
  · cases h
  · exact h
section
variable {C : Cs} {v v' v'' : Vw} {H H' H'' : Hp}
theorem Ext.refl : Ext C v H v H := ⟨fun _ _ h _ => h, fun _ h => .inl h, fun _ h => h⟩
theorem Ext.trans (a : Ext C v H v' H') (b : Ext C v' H' v'' H'') : Ext C v H v'' H'' := by
  refine ⟨fun x o h n => b.keep x o (a.keep x o h n) fun f => ?_, fun x f => ?_, fun x h => a.live x (b.live x h)⟩
  · rcases a.grow x f with z | z
    · exact n z
    · rw [h] at z; cases z
  · rcases b.grow x f with z | z
    · exact a.grow x z
    · by_cases w : Foot C v x
      · exact .inl w
      · refine .inr ?_
        cases q : H x with
        | none => rfl
        | some o => rw [a.keep x o q w] at z; cases z
/-- an object that is not the world's is still there, and still not the world's -/
theorem Ext.still (a : Ext C v H v' H') {b : Addr} {o : HO} (h : H b = some o) (n : ¬ Foot C v b) : H' b = some o ∧ ¬ Foot C v' b :=
  ⟨a.keep b o h n, fun f => by
    rcases a.grow b f with z | z
    · exact n z
    · rw [h] at z; cases z⟩
theorem At.foot (W : At C v H) {b : Addr} (f : Foot C v b) : ∃ o, H b = some o := by
  obtain ⟨r, o, h, rfl⟩ := f
  exact ⟨o, W.is r o h⟩
/-- what is new is not the world's -/
theorem At.new (W : At C v H) {b : Addr} (h : H b = none) : ¬ Foot C v b := fun f => by
  obtain ⟨o, q⟩ := W.foot f
  rw [h] at q; cases q
/-- a heap in which all the world's objects stand as they did -/
theorem At.same (W : At C v H) (k : ∀ b, Foot C v b → H' b = H b) : At C v H' :=
  ⟨fun r o h => by rw [k _ ⟨r, o, h, rfl⟩]; exact W.is r o h, W.inj⟩
/-- another object is laid or changed -/
theorem At.other (W : At C v H) {b : Addr} {o : HO} (n : ¬ Foot C v b) : At C v (upd H b o) := W.same fun x f => upd_ne (fun e => n (e ▸ f))
/-- one object of the world is changed -/
theorem At.one (W : At C v H) {s' : Vbexac.St} {r : Role} {o o' : HO} (h0 : cont C v r = some o) (h1 : cont C { v with s := s' } r = some o') (h2 : ∀ q, q ≠ r → cont C { v with s := s' } q = cont C v q) :
    At C { v with s := s' } (upd H (v.G r) o') ∧ Ext C v H { v with s := s' } (upd H (v.G r) o') := by
  have val : ∀ q u, cont C { v with s := s' } q = some u → ∃ u', cont C v q = some u' := fun q u h => by
    by_cases e : q = r
    · rw [e]; exact ⟨o, h0⟩
    · rw [h2 q e] at h; exact ⟨u, h⟩
  refine ⟨⟨fun q u h => ?_, fun q q' u u' h h' e => ?_⟩, fun b u h n => ?_, fun b f => ?_, fun b h => upd_none h⟩
  · by_cases e : q = r
    · subst e
      rw [h1] at h
      cases h
      exact upd_same
    · rw [h2 q e] at h
      show upd H (v.G r) o' (v.G q) = _
      rw [upd_ne (fun z => e (W.inj q r u o h h0 z))]
      exact W.is q u h
  · obtain ⟨x, hx⟩ := val q u h
    obtain ⟨x', hx'⟩ := val q' u' h'
    exact W.inj q q' x x' hx hx' e
  · rw [upd_ne (fun z => n ⟨r, o, h0, z.symm⟩)]; exact h
  · obtain ⟨q, u, h, e⟩ := f
    obtain ⟨x, hx⟩ := val q u h
    exact .inl ⟨q, x, hx, e⟩
/-- a view with another address for one role -/
def Vw.put (v : Vw) (r : Role) (x dx : Addr) (s' : Vbexac.St) : Vw := ⟨fun q => if q = r then x else v.G q, fun q => if q = r then dx else v.D q, s'⟩
/-- an object that was not the world's becomes the world's at the new role r1, and the list at r0 is changed -/
theorem At.two (W : At C v H) {s' : Vbexac.St} {r0 r1 : Role} {x dx : Addr} {o0 o0' o1 : HO} (n : ¬ Foot C v x) (hx : H x = some o1) (hne : r0 ≠ r1) (hv : cont C v r1 = none)
    (h0 : cont C v r0 = some o0) (h0' : cont C (v.put r1 x dx s') r0 = some o0') (h1 : cont C (v.put r1 x dx s') r1 = some o1) (h2 : ∀ q, q ≠ r0 → q ≠ r1 → cont C (v.put r1 x dx s') q = cont C v q) :
    At C (v.put r1 x dx s') (upd H (v.G r0) o0') ∧ ∀ {H0 : Hp}, H0 x = none → Ext C v H0 v H → Ext C v H0 (v.put r1 x dx s') (upd H (v.G r0) o0') := by
  have g1 : (v.put r1 x dx s').G r1 = x := if_pos rfl
  have gq : ∀ {q : Role}, q ≠ r1 → (v.put r1 x dx s').G q = v.G q := fun h => if_neg h
  have val : ∀ q u, q ≠ r1 → cont C (v.put r1 x dx s') q = some u → ∃ u', cont C v q = some u' := fun q u nq h => by
    by_cases e : q = r0
    · rw [e]; exact ⟨o0, h0⟩
    · rw [h2 q e nq] at h; exact ⟨u, h⟩
  have xne : ∀ q u, cont C v q = some u → v.G q ≠ x := fun q u h e => n ⟨q, u, h, e⟩
  refine ⟨⟨fun q u h => ?_, fun q q' u u' h h' e => ?_⟩, fun {H0} hx0 ext => ⟨fun b u h nf => ?_, fun b f => ?_, fun b h => ext.live b (upd_none h)⟩⟩
  · by_cases e1 : q = r1
    · subst e1
      rw [h1] at h; cases h
      rw [g1, upd_ne (Ne.symm (xne r0 o0 h0))]; exact hx
    · rw [gq e1]
      by_cases e0 : q = r0
      · subst e0
        rw [h0'] at h; cases h
        exact upd_same
      · rw [h2 q e0 e1] at h
        rw [upd_ne (fun z => e0 (W.inj q r0 u o0 h h0 z))]
        exact W.is q u h
  · by_cases e1 : q = r1
    · by_cases e2 : q' = r1
      · rw [e1, e2]
      · rw [e1, g1, gq e2] at e
        obtain ⟨y, hy⟩ := val q' u' e2 h'
        exact absurd e.symm (xne q' y hy)
    · by_cases e2 : q' = r1
      · rw [e2, g1, gq e1] at e
        obtain ⟨y, hy⟩ := val q u e1 h
        exact absurd e (xne q y hy)
      · rw [gq e1, gq e2] at e
        obtain ⟨y, hy⟩ := val q u e1 h
        obtain ⟨y', hy'⟩ := val q' u' e2 h'
        exact W.inj q q' y y' hy hy' e
  · rw [upd_ne (fun z => nf ⟨r0, o0, h0, z.symm⟩)]
    exact ext.keep b u h nf
  · obtain ⟨q, u, h, e⟩ := f
    by_cases e1 : q = r1
    · rw [e1, g1] at e
      rw [← e]; exact .inr hx0
    · rw [gq e1] at e
      obtain ⟨y, hy⟩ := val q u e1 h
      exact .inl ⟨q, y, hy, e⟩
end
end RF
end
section
set_option linter.all false
set_option Elab.async false
set_option maxRecDepth 100000
set_option maxHeartbeats 2000000
namespace RF
open PySem PySem.Spec PyProof.Rows L2
/-! ### a def, a method, a class, with its promise -/
structure Fn (P : Program) (w : World) (K : PySem.W.Frag) (mg : Str → Option Value) (base : Heap) (x : Str) (k : Nat) (ps : List Str) (sp : Sp) : Prop where
  ex : ∃ f fd, FnOk P w K mg base CX0 k f fd ps sp ∧ Binds K fd ps [] ∧ mg x = some (.ref f) ∧ PySem.W.keepIn K (.ref f) = true
structure Mt (P : Program) (w : World) (K : PySem.W.Frag) (mg : Str → Option Value) (base : Heap) (C : Addr) (m : Str) (k : Nat) (ps : List Str) (sp : Sp) : Prop where
  ex : ∃ f fd, FnOk P w K mg base CX0 k f fd ps sp ∧ Binds K fd ps [] ∧ Meth K C m f
  cl : Cls K C
structure Mc (P : Program) (w : World) (K : PySem.W.Frag) (mg : Str → Option Value) (base : Heap) (x : Str) (C : Addr) (k : Nat) (ps : List Str) (sp : Sp) : Prop where
  ex : ∃ f fd, FnOk P w K mg base CX0 k f fd ps sp ∧ Binds K fd ps [] ∧ Mk K C f ∧ mg x = some (.ref C)
/-- a constant of the text's top -/
def GC (mg : Str → Option Value) (x : Str) (v : V) : Prop := ∃ u, mg x = some u ∧ RelV v u
section
variable {X : Cx} {k : Nat} {C : Addr} {ps : List Str} {sp : Sp} {x m f : Str} {p pos apos pos' : Pos} {e o value : Expr} {es : List Expr} {ta tv : TE} {t : TA} {v : V}
theorem pe_gc (h : GC X.mg x v) (hg : Gl X x := by rfl) (hd : (x == ("__debug__" : Str)) = false := by decide) : PE X (.Name x pos) (tC v) := by
  obtain ⟨u, h1, h2⟩ := h
  exact pe_glob hg h1 h2 hd
theorem pe_neg {i : Int} {j : Nat} : PE X (.UnaryOp .USub (.Constant (.int i) j p) pos) (tC (.int (-i))) := fun pins s σ H Q I h => (pe_un un_neg pe_int) pins s σ H Q I ⟨i, rfl, h⟩
theorem pe_fn (F : Fn X.prog X.w X.K X.mg X.base x k ps sp) (hr : Room k X.A) (ha : PA X (e :: es) t) (hg : Gl X x := by rfl) (hdb : (x == ("__debug__" : Str)) = false := by decide)
    (he : starEach (e :: es) X.env = (false, eval e X.env) :: starEach es X.env := by rfl) (hpl : (backTo pos (starEach es X.env)).any (·.1) = false := by rfl) : PE X (.Call (.Name x p) (e :: es) [] pos) (tCall sp [] E0 t) := by
  obtain ⟨f, fd, h1, h2, h3, h4⟩ := F.ex
  exact pe_call h1 hr hg h3 h4 h2 .nil pass0 ha hdb he hpl
theorem pe_fn0 (F : Fn X.prog X.w X.K X.mg X.base x k ps sp) (hr : Room k X.A) (hg : Gl X x := by rfl) (hdb : (x == ("__debug__" : Str)) = false := by decide) : PE X (.Call (.Name x p) [] [] pos) (tCall sp [] E0 tNil) := by
  obtain ⟨f, fd, h1, h2, h3, h4⟩ := F.ex
  exact pe_call0 h1 hr hg h3 h4 h2 .nil pass0 hdb
theorem pe_mt {pl : Sem Bool} (F : Mt X.prog X.w X.K X.mg X.base C m k ps sp) (hr : Room k X.A) (ho : PE X o ta) (ha : PA X (e :: es) t)
    (hst : starEach (e :: es) X.env = (false, eval e X.env) :: starEach es X.env := by rfl) (hpl : (backTo pos (starEach es X.env)).any (·.1) = false := by rfl)
    (ht : eval (.Call (.Attribute o m apos) (e :: es) [] pos) X.env = (do
      let ov ← eval o X.env
      standAt apos.atName
      let (f, first) ← holding [ov] (getMethod ov m pl)
      callWith pos f first (backTo pos (starEach (e :: es) X.env)) (backToKw pos (keywordEach [] X.env))) := by rfl) :
    PE X (.Call (.Attribute o m apos) (e :: es) [] pos) (tMeth C m sp [] E0 ta t) := by
  obtain ⟨f, fd, h1, h2, h3⟩ := F.ex
  exact pe_meth ho F.cl h3 h1 hr h2 .nil pass0 ha hst hpl ht
theorem pe_mt0 {pl : Sem Bool} (F : Mt X.prog X.w X.K X.mg X.base C m k ps sp) (hr : Room k X.A) (ho : PE X o ta)
    (ht : eval (.Call (.Attribute o m apos) [] [] pos) X.env = (do
      let ov ← eval o X.env
      standAt apos.atName
      let (f, first) ← holding [ov] (getMethod ov m pl)
      callWith pos f first (backTo pos (starEach [] X.env)) (backToKw pos (keywordEach [] X.env))) := by rfl) :
    PE X (.Call (.Attribute o m apos) [] [] pos) (tMeth C m sp [] E0 ta tNil) := by
  obtain ⟨f, fd, h1, h2, h3⟩ := F.ex
  exact pe_meth0 ho F.cl h3 h1 hr h2 .nil pass0 ht
theorem pe_mc (F : Mc X.prog X.w X.K X.mg X.base x C k ps sp) (hr : Room (k + 1) X.A) (ha : PA X (e :: es) t) (hg : Gl X x := by rfl) (hdb : (x == ("__debug__" : Str)) = false := by decide)
    (he : starEach (e :: es) X.env = (false, eval e X.env) :: starEach es X.env := by rfl) (hpl : (backTo pos (starEach es X.env)).any (·.1) = false := by rfl) : PE X (.Call (.Name x p) (e :: es) [] pos) (tMake C sp [] E0 t) := by
  obtain ⟨f, fd, h1, h2, h3, h4⟩ := F.ex
  exact pe_make h3 h1 hr hg h4 h2 .nil pass0 ha hdb he hpl
theorem pe_mc0 (F : Mc X.prog X.w X.K X.mg X.base x C k ps sp) (hr : Room (k + 1) X.A) (hg : Gl X x := by rfl) (hdb : (x == ("__debug__" : Str)) = false := by decide) : PE X (.Call (.Name x p) [] [] pos) (tMake C sp [] E0 tNil) := by
  obtain ⟨f, fd, h1, h2, h3, h4⟩ := F.ex
  exact pe_make0 h3 h1 hr hg h4 h2 .nil pass0 hdb
/-- o.f of an instance of the class at C -/
def rF (C : Addr) (ta : TE) (f : Str) : TE := fun σ H Q => ta σ H fun x H1 => ∃ a dx fs v, x = .ref a ∧ H1 a = some (.ins C dx fs) ∧ fs.lookup f = some v ∧ Q v H1
theorem pf (c : Cls X.K C) (n : NoAttr X.K C f) (he : PE X e ta) (hb : attributeBase e f X.env (eval e X.env) = eval e X.env := by rfl) : PE X (.Attribute e f pos) (rF C ta f) := by
  intro pins s σ H Q I h
  refine attr_of hb (thn (he pins s σ H _ I h) fun u s1 ⟨x, H1, I1, rx, a, dx, fs, v, ex, ea, l, q⟩ => ?_)
  subst ex
  obtain rfl : u = Value.ref a := rx
  exact getattr_ok I1 ea c n l fun u' s2 I2 ru => ⟨v, H1, I2, ru, q⟩
/-- o.f = value -/
def wF' (C : Addr) (ta tv : TE) (f : Str) : TS := fun D σ H => tv σ H fun y H1 => ta σ H1 fun x H2 => ∃ a dx fs fs', x = .ref a ∧ H2 a = some (.ins C dx fs) ∧ fs.length < 1000 ∧ putF f y fs = fs' ∧ D.nx σ (upd H2 a (.ins C dx fs'))
theorem psf (c : Cls X.K C) (n : NoAttr X.K C f) (ha : PE X o ta) (hv : PE X value tv) (hs : swapsWith value (some (.Attribute o f pos')) pos.line X.env = pure false := by rfl) : PS X (.Assign [.Attribute o f pos'] value pos) (wF' C ta tv f) := by
  intro pins s σ H D I h
  refine plainObj_wpAny_Assign_Attribute (thn (hv pins s σ H _ I h) fun u s1 ⟨y, H1, I1, ry, q⟩ => thn (ha pins s1 σ H1 _ I1 q) fun ov s2 ⟨x, H2, I2, rx, a, dx, fs, fs', ex, ea, l, ep, q2⟩ => ?_) hs
  subst ex
  obtain rfl : ov = Value.ref a := rx
  subst ep
  exact setattr_ok I2 ea c n l ry fun s3 I3 => ⟨σ, _, I3, q2⟩
/-- o.f += value, o.f -= value, ints -/
def aF (C : Addr) (g : Int → Int → Int) (ta tv : TE) (f : Str) : TS := fun D σ H => ta σ H fun x H1 => ∃ a dx fs i, x = .ref a ∧ H1 a = some (.ins C dx fs) ∧ fs.lookup f = some (.int i) ∧
  tv σ H1 fun y H2 => ∃ j dx' fs' fs'', y = .int j ∧ H2 a = some (.ins C dx' fs') ∧ fs'.length < 1000 ∧ putF f (.int (g i j)) fs' = fs'' ∧ D.nx σ (upd H2 a (.ins C dx' fs''))
theorem psa {op : Operator} {g : Int → Int → Int} {tpos : Pos} (hop : InOp X op (fun x y H Q => ∃ i j, x = .int i ∧ y = .int j ∧ Q (.int (g i j)) H)) (c : Cls X.K C) (n : NoAttr X.K C f) (ha : PE X o ta) (hv : PE X value tv) :
    PS X (.AugAssign (.Attribute o f tpos) op value pos) (aF C g ta tv f) := by
  intro pins s σ H D I h
  refine wpAny_AugAssign_AttributeAny (thn (ha pins s σ H _ I h) fun ov s1 ⟨x, H1, I1, rx, a, dx, fs, i, ex, ea, l, q⟩ => ?_)
  subst ex
  obtain rfl : ov = Value.ref a := rx
  refine getattr_ok I1 ea c n l fun u s2 I2 ru => thn (hv pins s2 σ H1 _ I2 q) fun w3 s3 ⟨y, H2, I3, ry, j, dx', fs', fs'', ey, ea', l', ep, q4⟩ => ?_
  subst ep
  refine thn (hop pins s3 σ H2 (.int i) y u w3 (fun z H3 => z = .int (g i j) ∧ H3 = H2) I3 ru ry ⟨i, j, rfl, ey, rfl, rfl⟩) fun w4 s4 ⟨z, H3, I4, rz, e1, e2⟩ => ?_
  subst e1 e2
  exact setattr_ok I4 ea' c n l' rz fun s5 I5 => ⟨σ, _, I5, q4⟩
/-- a test that is a call with a bool -/
theorem pt_call {t : TE} (h : PE X e t) (he : ∀ whole, isTrue e X.env whole = (do let v ← whole; standAt e.pos; holding [v] (truthy v)) := by intro _; rfl) : PT X e (tB t) := pt_val h he
end
end RF
end
section
set_option linter.all false
set_option Elab.async false
set_option maxRecDepth 100000
set_option maxHeartbeats 2000000
/-! zip of a list and a tuple, walked by a pair of names -/
namespace RF
open PySem PySem.Spec PyProof.Rows L2
section
variable {pr : Program} {wd : World} {Ar : Around} {Ex : Value → Shared → Prop} {st : Shared}
theorem drawT {ib tb : Addr} {n : Nat} {its : Array Value} {y : Value} {R : Value → Shared → Prop} (hi : st.heap.IsTupleIter ib tb n) (ht : st.heap.IsTuple tb its) (hy : its[n]? = some y)
    (go : ∀ g, g.IsTupleIter ib tb (n + 1) → Heap.SameBut ib st.heap g → R y { st with heap := g }) : wpAny (model pr wd) Ar (Builtin.SmallTypes.nextOf (.ref ib)) R Ex st := by
  obtain ⟨ob, eo, ec, ed⟩ := id hi
  obtain ⟨ot, eot, _, nt, edt⟩ := ht
  unfold Builtin.SmallTypes.nextOf; refine wpAny_bind (wpAny_callSpecial?_slot (name := Str.ofString "__next__") hi.typeIs F.slot_tuple_iterator_next (wpAny_call_entry F.slot_tuple_iterator_next hi.typeIs F.entry_tuple_iterator_next ?_ (F.args_tuple_iterator_next_1 _)))
  show wpAny _ _ (field (.ref ib) 0 >>= _) _ _ st
  refine wpAny_bind (wpAny_field eo ed (x := .ref tb) rfl ?_)
  show wpAny _ _ (if (Value.ref tb == Value.none) = true then _ else _) _ _ st; rw [if_neg (show ¬ ((Value.ref tb == Value.none) = true) from Bool.false_ne_true)]
  show wpAny _ _ (field (.ref ib) 1 >>= _) _ _ st
  refine wpAny_bind (wpAny_field eo ed (x := .int n 0) rfl ?_)
  show wpAny _ _ (seqItems? (.ref tb) >>= _) _ _ st
  refine wpAny_bind (wpAny_seqItems eot edt ?_)
  simp only [Int.toNat_natCast, hy]
  refine wpAny_bind (wpAny_setField eo ed (by simp) (wpAny_pure ⟨y, rfl, wpAny_pure (go _ ?_ (Heap.SameBut.update ..))⟩))
  exact ⟨_, Heap.get?_update_self _ eo (Obj.isFreed_of_fields (Obj.data_mapFields ed _)), (Obj.cls_mapFields ..).trans ec, by rw [Obj.data_mapFields ed]; simp [rawInt]⟩
/-- zip's own step, both have an item -/
theorem zlt_item {q ti tu ia ib la lb : Addr} {n m : Nat} {xs ys : Array Value} {x y a b : Value} {R : Value → Shared → Prop} (D : ZipApart q ti tu ia ib la lb) (hq : IsZip st.heap q ti tu .none) (hti : IsPair st.heap ti (.ref ia) (.ref ib)) (htu : IsPair st.heap tu a b)
    (h1 : st.heap.IsListIter ia la n) (h2 : st.heap.IsTupleIter ib lb m) (hl1 : st.heap.IsList la xs) (hl2 : st.heap.IsTuple lb ys) (hx : xs[n]? = some x) (hy : ys[m]? = some y)
    (go : ∀ g, IsZip g q ti tu (rawInt st.heap.objs.size) → IsPair g tu x y → g.IsListIter ia la (n + 1) → g.IsTupleIter ib lb (m + 1) → IsPair g st.heap.objs.size x y → g.objs.size = st.heap.objs.size + 1 →
      (∀ c o, c ≠ q → c ≠ tu → c ≠ ia → c ≠ ib → st.heap.get? c = some o → g.get? c = some o) → R (.ref st.heap.objs.size) { st with heap := g }) :
    wpAny (model pr wd) Ar (Builtin.«zip.__next__» ⟨[.ref q], []⟩) (fun fin s' => ∃ v, fin = .done (.ret v) ∧ R v s') Ex st := by
  show wpAny _ _ (field (.ref q) 2 >>= _) _ _ _
  refine wpAny_bind (wpAny_field hq rfl (x := .bool false) rfl ?_); show wpAny _ _ (field (.ref q) 3 >>= _) _ _ _
  refine wpAny_bind (wpAny_field hq rfl (x := .ref ti) rfl ?_); refine wpAny_bind (wpAny_seqItems hti rfl ?_)
  show wpAny _ _ (Builtin.SmallTypes.ownedTupleIsFree (.ref q) >>= _) _ _ _
  refine wpAny_bind ?_; unfold Builtin.SmallTypes.ownedTupleIsFree
  refine wpAny_bind (wpAny_field hq rfl (x := .none) rfl (wpAny_pure ?_)); simp only [if_true]
  refine wpAny_bind (wpAny_rule ?_); refine wpAny_bind (wpAny_field hq rfl (x := .ref tu) rfl ?_)
  refine wpAny_bind (wpAny_setField_rec hq (by simp) fun g1 q1 e1 => ?_)
  replace q1 : IsZip g1 q ti tu .ellipsis := q1
  refine wpAny_bind ?_; simp only [List.zipIdx_nil, List.zipIdx_cons, List.forIn_nil, List.forIn_cons]
  refine wpAny_bind (wpAny_bind (wpAny_onRaise ?_)); show wpAny _ _ (Builtin.SmallTypes.nextOf (.ref ia) >>= _) _ _ _
  refine wpAny_bind (wpAny_nextOf_list_item (h1.extBut e1.extBut D.i1z) (hl1.extBut e1.extBut D.l1z) hx fun g2 a2 e2 => wpAny_pure ?_)
  have p2 : IsPair g2 tu a b := e2.extBut _ _ D.TOi1 (e1.extBut _ _ D.TOz htu)
  refine wpAny_bind (wpAny_seqItems p2 rfl ?_)
  refine wpAny_bind (wpAny_updateSeq_pair p2 fun g3 p3 e3 => ?_)
  replace p3 : IsPair g3 tu x b := p3
  refine wpAny_bind (wpAny_letGo (wpAny_pure ?_)); refine wpAny_bind (wpAny_bind (wpAny_onRaise ?_))
  show wpAny _ _ (Builtin.SmallTypes.nextOf (.ref ib) >>= _) _ _ _
  refine wpAny_bind (drawT (((h2.extBut e1.extBut D.i2z).extBut e2.extBut D.i12.symm).extBut e3.extBut D.TOi2.symm) (((hl2.extBut e1.extBut D.l2z).extBut e2.extBut D.l2i1).extBut e3.extBut D.l2TO) hy fun g4 b4 e4 => wpAny_pure ?_)
  have p4 : IsPair g4 tu x b := e4.extBut _ _ D.TOi2 p3
  refine wpAny_bind (wpAny_seqItems p4 rfl ?_)
  refine wpAny_bind (wpAny_updateSeq_pair p4 fun g5 p5 e5 => ?_)
  replace p5 : IsPair g5 tu x y := p5
  refine wpAny_bind (wpAny_letGo (wpAny_pure (wpAny_pure ?_))); refine wpAny_bind (wpAny_seqItems p5 rfl ?_); refine wpAny_bind (wpAny_newTuple ?_)
  have sz : g5.objs.size = st.heap.objs.size := by rw [e5.1, e4.1, e3.1, e2.1, e1.1]
  have q5 : IsZip g5 q ti tu .ellipsis := e5.extBut _ _ D.TOz.symm (e4.extBut _ _ D.i2z.symm (e3.extBut _ _ D.TOz.symm (e2.extBut _ _ D.i1z.symm q1)))
  have k5 : ∀ c o, c ≠ q → c ≠ tu → c ≠ ia → c ≠ ib → st.heap.get? c = some o → g5.get? c = some o := fun c o c1 c2 c3 c4 e => e5.extBut _ _ c2 (e4.extBut _ _ c4 (e3.extBut _ _ c2 (e2.extBut _ _ c3 (e1.extBut _ _ c1 e))))
  have a5 : g5.IsListIter ia la (n + 1) := ((a2.extBut e3.extBut D.TOi1.symm).extBut e4.extBut D.i12).extBut e5.extBut D.TOi1.symm
  have b5 : g5.IsTupleIter ib lb (m + 1) := b4.extBut e5.extBut D.TOi2.symm
  have qlt : q < g5.objs.size := Heap.lt_size q5
  show wpAny _ _ (Builtin.SmallTypes.ownedTupleHandOut (.ref q) (.ref g5.objs.size) >>= _) _ _ _
  refine wpAny_bind ?_; unfold Builtin.SmallTypes.ownedTupleHandOut
  have q6 : IsZip (g5.push { cls := .type "tuple", data := .seq #[x, y] }) q ti tu .ellipsis := Heap.get?_push_of_some _ q5
  refine wpAny_bind (wpAny_setField_rec q6 (by simp) fun g7 q7 e7 => ?_)
  replace q7 : IsZip g7 q ti tu (rawInt g5.objs.size) := q7
  refine wpAny_setField_rec q7 (by simp) fun g8 q8 e8 => ?_
  replace q8 : IsZip g8 q ti tu (rawInt g5.objs.size) := q8
  have up8 : ∀ c o, c ≠ q → g5.get? c = some o → g8.get? c = some o := fun c o c1 e => e8.extBut _ _ c1 (e7.extBut _ _ c1 (Heap.get?_push_of_some _ e))
  have t8 : IsPair g8 g5.objs.size x y := e8.extBut _ _ (Nat.ne_of_gt qlt) (e7.extBut _ _ (Nat.ne_of_gt qlt) (Heap.get?_push_size _ rfl))
  have z8 : g8.objs.size = g5.objs.size + 1 := by rw [e8.1, e7.1, Heap.size_push]
  rw [sz] at q8 t8 z8
  refine wpAny_pure ⟨_, rfl, ?_⟩
  show R (.ref g5.objs.size) _
  rw [sz]
  exact go g8 q8 (up8 _ _ D.TOz p5) (a5.at fun o e => up8 _ o D.i1z e) (b5.at fun o e => up8 _ o D.i2z e) t8 z8 fun c o c1 c2 c3 c4 e => up8 c o c1 (k5 c o c1 c2 c3 c4 e)
/-- zip's own step, the list is at its end -/
theorem zlt_end {q ti tu ia ib la lb : Addr} {n m : Nat} {xs : Array Value} {a b : Value} {R : Fin → Shared → Prop} (hh : Ar.handled = none) (D : ZipApart q ti tu ia ib la lb) (hq : IsZip st.heap q ti tu .none) (hti : IsPair st.heap ti (.ref ia) (.ref ib)) (htu : IsPair st.heap tu a b)
    (h1 : st.heap.IsListIter ia la n) (hl1 : st.heap.IsList la xs) (hx : xs[n]? = none)
    (go : ∀ g e, (∀ c o, c ≠ q → c ≠ tu → c ≠ ia → c ≠ ib → st.heap.get? c = some o → g.get? c = some o) → (∃ o, g.get? e = some o ∧ o.cls = .type "StopIteration") → Ex (.ref e) { st with heap := g }) :
    wpAny (model pr wd) Ar (Builtin.«zip.__next__» ⟨[.ref q], []⟩) R Ex st := by
  show wpAny _ _ (field (.ref q) 2 >>= _) _ _ _
  refine wpAny_bind (wpAny_field hq rfl (x := .bool false) rfl ?_); show wpAny _ _ (field (.ref q) 3 >>= _) _ _ _
  refine wpAny_bind (wpAny_field hq rfl (x := .ref ti) rfl ?_); refine wpAny_bind (wpAny_seqItems hti rfl ?_)
  show wpAny _ _ (Builtin.SmallTypes.ownedTupleIsFree (.ref q) >>= _) _ _ _
  refine wpAny_bind ?_; unfold Builtin.SmallTypes.ownedTupleIsFree
  refine wpAny_bind (wpAny_field hq rfl (x := .none) rfl (wpAny_pure ?_)); simp only [if_true]
  refine wpAny_bind (wpAny_rule ?_); refine wpAny_bind (wpAny_field hq rfl (x := .ref tu) rfl ?_)
  refine wpAny_bind (wpAny_setField_rec hq (by simp) fun g1 q1 e1 => ?_)
  replace q1 : IsZip g1 q ti tu .ellipsis := q1
  refine wpAny_bind ?_; simp only [List.zipIdx_nil, List.zipIdx_cons, List.forIn_nil, List.forIn_cons]
  refine wpAny_bind (wpAny_bind (wpAny_onRaise ?_)); show wpAny _ _ (Builtin.SmallTypes.nextOf (.ref ia) >>= _) _ _ _
  refine wpAny_bind (wpAny_nextOf_list_end hh (h1.extBut e1.extBut D.i1z) (hl1.extBut e1.extBut D.l1z) hx fun g2 e e2 he => ?_)
  obtain ⟨oe, ho, hc⟩ := he
  have q2 : IsZip g2 q ti tu .ellipsis := e2 _ _ D.i1z.symm q1
  have eq : e ≠ q := fun z => by subst z; rw [q2] at ho; cases ho; simp at hc
  exact wpAny_setField_rec q2 (by simp) fun g3 _ e3 => go g3 e (fun c o c1 _ c3 _ z => e3.extBut _ _ c1 (e2 _ _ c3 (e1.extBut _ _ c1 z))) ⟨oe, e3.extBut _ _ eq ho, hc⟩
theorem zlt_next {q ti tu ia ib la lb : Addr} {n m : Nat} {xs ys : Array Value} {x y a b : Value} {R : Option Value → Shared → Prop} (D : ZipApart q ti tu ia ib la lb) (hq : IsZip st.heap q ti tu .none) (hti : IsPair st.heap ti (.ref ia) (.ref ib)) (htu : IsPair st.heap tu a b)
    (h1 : st.heap.IsListIter ia la n) (h2 : st.heap.IsTupleIter ib lb m) (hl1 : st.heap.IsList la xs) (hl2 : st.heap.IsTuple lb ys) (hx : xs[n]? = some x) (hy : ys[m]? = some y)
    (go : ∀ g, IsZip g q ti tu (rawInt st.heap.objs.size) → IsPair g tu x y → g.IsListIter ia la (n + 1) → g.IsTupleIter ib lb (m + 1) → IsPair g st.heap.objs.size x y → g.objs.size = st.heap.objs.size + 1 →
      (∀ c o, c ≠ q → c ≠ tu → c ≠ ia → c ≠ ib → st.heap.get? c = some o → g.get? c = some o) → R (some (.ref st.heap.objs.size)) { st with heap := g }) : wpAny (model pr wd) Ar (pyNext (.ref q)) R Ex st := by
  have ty : st.TypeIs (.ref q) "zip" := ⟨_, hq, rfl⟩
  unfold pyNext; exact wpAny_bind (wpAny_attempt (wpAny_callSpecial?_slot (name := Str.ofString "__next__") ty F.slot_zip_next (wpAny_call_entry F.slot_zip_next ty F.entry_zip_next (zlt_item D hq hti htu h1 h2 hl1 hl2 hx hy fun g a1 a2 a3 a4 a5 a6 a7 => wpAny_pure (go g a1 a2 a3 a4 a5 a6 a7)) (F.args_zip_next_1 _))))
theorem zlt_stop {q ti tu ia ib la lb : Addr} {n m : Nat} {xs : Array Value} {a b : Value} {R : Option Value → Shared → Prop} (hh : Ar.handled = none) (D : ZipApart q ti tu ia ib la lb) (hq : IsZip st.heap q ti tu .none) (hti : IsPair st.heap ti (.ref ia) (.ref ib)) (htu : IsPair st.heap tu a b)
    (h1 : st.heap.IsListIter ia la n) (hl1 : st.heap.IsList la xs) (hx : xs[n]? = none)
    (go : ∀ g, (∀ c o, c ≠ q → c ≠ tu → c ≠ ia → c ≠ ib → st.heap.get? c = some o → g.get? c = some o) → R none { st with heap := g }) : wpAny (model pr wd) Ar (pyNext (.ref q)) R Ex st := by
  have ty : st.TypeIs (.ref q) "zip" := ⟨_, hq, rfl⟩
  unfold pyNext; refine wpAny_bind (wpAny_attempt (wpAny_callSpecial?_slot (name := Str.ofString "__next__") ty F.slot_zip_next (wpAny_call_entry F.slot_zip_next ty F.entry_zip_next (zlt_end (ib := ib) (lb := lb) (m := m) hh D hq hti htu h1 hl1 hx fun g e hk he => ?_) (F.args_zip_next_1 _))))
  obtain ⟨o, ho, hc⟩ := he
  refine wpAny_bind (wpAny_isInstance (T := "StopIteration") (b := true) ⟨o, ho, hc⟩ isSubtype_stop ?_)
  exact wpAny_pure (go _ hk)
end
/-! zip(list, tuple) is made -/
abbrev zl1 (h : Heap) (la : Addr) : Heap := h.push { cls := .type "list_iterator", data := .fields #[.ref la, .int 0 0] }
abbrev zl2 (h : Heap) (la lb : Addr) : Heap := (zl1 h la).push { cls := .type "tuple_iterator", data := .fields #[.ref lb, .int 0 0] }
abbrev zl3 (h : Heap) (la lb : Addr) : Heap := (zl2 h la lb).push { cls := .type "tuple", data := .seq #[.ref h.objs.size, .ref (zl1 h la).objs.size] }
abbrev zl4 (h : Heap) (la lb : Addr) : Heap := (zl3 h la lb).push { cls := .type "tuple", data := .seq #[.none, .none] }
abbrev zl5 (h : Heap) (la lb : Addr) : Heap := (zl4 h la lb).push { cls := .type "zip", data := .fields #[.none, .bool false, .bool false, .ref (zl2 h la lb).objs.size, .ref (zl3 h la lb).objs.size] }
theorem zlt_meets (la lb : Addr) (xs ys : Array Value) : Meets (Builtin.«zip.__new__» ⟨[.type "zip", .ref la, .ref lb], []⟩) (fun _ R s => s.heap.IsList la xs ∧ s.heap.IsTuple lb ys ∧ R (.ok (.ret (.ref (zl4 s.heap la lb).objs.size))) { s with heap := zl5 s.heap la lb }) :=
  .of_wp fun prog w A R s h => by
    obtain ⟨hp, g, d, tk, os⟩ := s; obtain ⟨h1, h2, h⟩ := h
    have sub := sub_zip
    have j1 : Heap.IsList (Shared.heap ⟨hp, g, d, tk, os⟩) la xs := h1
    have j2 : Heap.IsTuple (Shared.heap ⟨hp.push { cls := .type "list_iterator", data := .fields #[.ref la, .int 0 0] }, g, d, tk, os⟩) lb ys := Heap.IsTuple.push h2 _
    wp_walk using wpAny_pyIter_list j1, wpAny_pyIter_tuple j2
    exact ⟨_, rfl, h⟩
theorem zlt_call {pr : Program} {wd : World} {Ar : Around} {Ex : Value → Shared → Prop} {st : Shared} {la lb : Addr} {xs ys : Array Value} {R : Value → Shared → Prop} (h1 : st.heap.IsList la xs) (h2 : st.heap.IsTuple lb ys)
    (go : ∀ g, IsZip g (st.heap.objs.size + 4) (st.heap.objs.size + 2) (st.heap.objs.size + 3) .none → IsPair g (st.heap.objs.size + 2) (.ref st.heap.objs.size) (.ref (st.heap.objs.size + 1)) → IsPair g (st.heap.objs.size + 3) .none .none → g.IsListIter st.heap.objs.size la 0 → g.IsTupleIter (st.heap.objs.size + 1) lb 0 →
      (∀ c o, st.heap.get? c = some o → g.get? c = some o) → R (.ref (st.heap.objs.size + 4)) { st with heap := g }) : wpAny (model pr wd) Ar (call (.type "zip") [.ref la, .ref lb]) R Ex st := by
  refine callType_new F.called_zip (by decide) (F.typeCall_zip_2 _ _) (F.newCall_zip_2 _ _) (fun obj => F.args_object_init_3 obj _ _) F.entry_zip_new (zlt_meets la lb xs ys) ⟨h1, h2, ?_⟩
  have s1 : (zl1 st.heap la).objs.size = st.heap.objs.size + 1 := Heap.size_push ..
  have s2 : (zl2 st.heap la lb).objs.size = st.heap.objs.size + 2 := by rw [Heap.size_push, s1]
  have s3 : (zl3 st.heap la lb).objs.size = st.heap.objs.size + 3 := by rw [Heap.size_push, s2]
  have s4 : (zl4 st.heap la lb).objs.size = st.heap.objs.size + 4 := by rw [Heap.size_push, s3]
  have k5 : (zl5 st.heap la lb).get? (zl4 st.heap la lb).objs.size = some _ := Heap.get?_push_size _ rfl
  have k4 : (zl5 st.heap la lb).get? (zl3 st.heap la lb).objs.size = some _ := Heap.get?_push_of_some _ (Heap.get?_push_size _ rfl)
  have k3 : (zl5 st.heap la lb).get? (zl2 st.heap la lb).objs.size = some _ := Heap.get?_push_of_some _ (Heap.get?_push_of_some _ (Heap.get?_push_size _ rfl))
  have k2 : (zl5 st.heap la lb).get? (zl1 st.heap la).objs.size = some _ := Heap.get?_push_of_some _ (Heap.get?_push_of_some _ (Heap.get?_push_of_some _ (Heap.get?_push_size _ rfl)))
  have k1 : (zl5 st.heap la lb).get? st.heap.objs.size = some _ := Heap.get?_push_of_some _ (Heap.get?_push_of_some _ (Heap.get?_push_of_some _ (Heap.get?_push_of_some _ (Heap.get?_push_size _ rfl))))
  show _ ∧ _
  rw [s2, s3, s4] at k5
  rw [s1, s2] at k3
  rw [s3] at k4
  rw [s1] at k2
  rw [s4]
  exact ⟨⟨_, k5, rfl⟩, go _ k5 k3 k4 ⟨_, k1, rfl, rfl⟩ ⟨_, k2, rfl, rfl⟩ fun c o x => Heap.get?_push_of_some _ (Heap.get?_push_of_some _ (Heap.get?_push_of_some _ (Heap.get?_push_of_some _ (Heap.get?_push_of_some _ x))))⟩
/-- the list at a and the tuple at b as they stand at each turn -/
def ItLT (K : PySem.W.Frag) (a b : Addr) : It :=
  ⟨fun i H => ∃ (xs ys : List V) (x y : V), SqL K H a xs ∧ SqT K H b ys ∧ xs[i]? = some x ∧ ys[i]? = some y,
    fun i H v H' => ∃ T x y, v = .ref T ∧ H T = none ∧ H' = upd H T (.tup [x, y]) ∧ (∀ xs, SqL K H a xs → xs[i]? = some x) ∧ ∀ ys, SqT K H b ys → ys[i]? = some y,
    fun i H => ∃ xs : List V, SqL K H a xs ∧ xs.length ≤ i⟩
theorem isTuple_of {h : Heap} {a : Addr} {its : Array Value} (x : IsTup h a its) : h.IsTuple a its := by
  obtain ⟨o, e, c, n, d⟩ := x
  exact ⟨o, e, c, n, d⟩
theorem turn_LT {P : Program} {w : World} {K : PySem.W.Frag} {elts : List Expr} {kk : Nat} {tpos : Pos} {a b q ti tu ia ib : Addr} (D : ZipApart q ti tu ia ib a b) :
    Turn P w K (.Tuple elts kk tpos) (ItLT K a b) [q, ti, tu, ia, ib] q (fun i h => IsZip h q ti tu .none ∧ IsPair h ti (.ref ia) (.ref ib) ∧ (∃ x y, IsPair h tu x y) ∧ h.IsListIter ia a i ∧ h.IsTupleIter ib b i) where
  mem := by simp
  obj := fun i h st c hc => by
    obtain ⟨hq, hti, ⟨x, y, htu⟩, ⟨o1, e1, _, d1⟩, ⟨o2, e2, _, d2⟩⟩ := st
    have e' : c = q ∨ c = ti ∨ c = tu ∨ c = ia ∨ c = ib := by simpa using hc
    rcases e' with z | z | z | z | z
    · rw [z]; exact ⟨_, hq, fun v w => nomatch w⟩
    · rw [z]; exact ⟨_, hti, fun v w => nomatch w⟩
    · rw [z]; exact ⟨_, htu, fun v w => nomatch w⟩
    · rw [z]; exact ⟨o1, e1, fun v w => by rw [d1] at w; cases w⟩
    · rw [z]; exact ⟨o2, e2, fun v w => by rw [d2] at w; cases w⟩
  keep := fun i h h' st k => by
    obtain ⟨hq, hti, ⟨x, y, htu⟩, h1, h2⟩ := st
    exact ⟨k q (by simp) _ hq, k ti (by simp) _ hti, ⟨x, y, k tu (by simp) _ htu⟩, h1.at fun o z => k ia (by simp) o z, h2.at fun o z => k ib (by simp) o z⟩
  item := by
    intro X hP hw hK hc i pins s σ H E I hf st hg
    subst hP hw hK
    obtain ⟨hq, hti, ⟨x0, y0, htu⟩, h1, h2⟩ := st
    obtain ⟨xs, ys, x, y, hsx, hsy, hx, hy⟩ := hg
    obtain ⟨its, rv, p, _⟩ := I.list hsx
    obtain ⟨its2, rv2, p2, _⟩ := I.tuple hsy
    obtain ⟨u, hu, ru⟩ := rv.get hx
    obtain ⟨u2, hu2, ru2⟩ := rv2.get hy
    have qlt : q < s.heap.objs.size := Heap.lt_size hq
    refine zlt_next D hq hti htu h1 h2 p.isList (isTuple_of p2) (x := u) (y := u2) (by simpa using hu) (by simpa using hu2) fun h' z' tu' h1' h2' hT hsz hk => ?_
    refine ⟨_, rfl, wpAny_letOwnedTupleGo_zip (s := { s with heap := h' }) z' fun h'' z'' sb => ?_⟩
    have hT2 : h''.get? s.heap.objs.size = some { cls := .type "tuple", data := .seq #[u, u2] } := (sb.2 _ (Nat.ne_of_gt qlt)).trans hT
    have new : ObjOk X.prog X.w (upd H s.heap.objs.size (.tup [x, y])) h'' s.heap.objs.size (.tup [x, y]) := ⟨by show 2 ≤ sizeLine; decide, [u, u2], .cons ru (.cons ru2 .nil), ⟨_, hT2, rfl, _, rfl⟩⟩
    have I1 : L2.Inv X pins σ (upd H s.heap.objs.size (.tup [x, y])) { s with heap := h'' } :=
      I.turnedNew (t' := s.toks) (ch := [q, ti, tu, ia, ib]) (fun c o hb w => (sb.2 c (fun w' => hb (by simp [w']))).trans (hk c o (fun w' => hb (by simp [w'])) (fun w' => hb (by simp [w'])) (fun w' => hb (by simp [w'])) (fun w' => hb (by simp [w'])) w)) hf (Nat.le_refl _) new
    refine ⟨.ref s.heap.objs.size, _, I1, rfl, ⟨_, x, y, rfl, I.hok.fresh (Nat.le_refl _), rfl, fun l hl => by rw [I.list_inj hl hsx]; exact hx, fun l hl => by rw [I.tuple_inj hl hsy]; exact hy⟩, ⟨z'', ?_, ⟨u, u2, ?_⟩, ?_, ?_⟩, fun c hcm => ?_⟩
    · exact (sb.2 _ D.TIz).trans (hk _ _ D.TIz D.TITO D.TIi1 D.TIi2 hti)
    · exact (sb.2 _ D.TOz).trans tu'
    · exact h1'.at fun o w => (sb.2 _ D.i1z).trans w
    · exact h2'.at fun o w => (sb.2 _ D.i2z).trans w
    · have hlt : c < s.heap.objs.size := by
        have e' : c = q ∨ c = ti ∨ c = tu ∨ c = ia ∨ c = ib := by simpa using hcm
        rcases e' with z | z | z | z | z
        · rw [z]; exact qlt
        · rw [z]; exact Heap.lt_size hti
        · rw [z]; exact Heap.lt_size htu
        · rw [z]; obtain ⟨_, e1, _⟩ := h1; exact Heap.lt_size e1
        · rw [z]; obtain ⟨_, e2, _⟩ := h2; exact Heap.lt_size e2
      rw [upd_ne (Nat.ne_of_lt hlt)]
      exact (hf c hcm).1
  done := by
    intro X hP hw hK hc i pins s σ H E I hf st hg
    subst hP hw hK
    obtain ⟨hq, hti, ⟨x0, y0, htu⟩, h1, h2⟩ := st
    obtain ⟨xs, hsx, hend⟩ := hg
    obtain ⟨its, rv, p, _⟩ := I.list hsx
    have l1 := rv.length
    have he : its.toArray[i]? = none := by simp; omega
    exact zlt_stop (ib := ib) (lb := b) (m := i) (I.ok.hd hc) D hq hti htu h1 p.isList he fun h' hk => ⟨rfl, I.turnedL (t' := s.toks) (ch := [q, ti, tu, ia, ib]) (fun c o hb w =>
      hk c o (fun w' => hb (by simp [w'])) (fun w' => hb (by simp [w'])) (fun w' => hb (by simp [w'])) (fun w' => hb (by simp [w'])) w) hf⟩
  self := fun A i s Q E st h => wpAny_pyIter_zip st.1 h
def iLT (K : PySem.W.Frag) (ta : TA) : TI := fun σ H R => ta σ H fun vs H1 => ∃ a b xs ys, vs = [.ref a, .ref b] ∧ SqL K H1 a xs ∧ SqT K H1 b ys ∧ R (ItLT K a b) H1
theorem pi_LT {X : Cx} {e e2 : Expr} {ta : TA} {p pos tpos : Pos} {elts : List Expr} {kk : Nat} (hg : Gl X "zip") (hm : X.mg "zip" = none) (ha : PA X [e, e2] ta) (hs : starEach [e, e2] X.env = (false, eval e X.env) :: starEach [e2] X.env := by rfl)
    (hpl : (backTo pos (starEach [e2] X.env)).any (·.1) = false := by rfl) : PI X (.Tuple elts kk tpos) (.Call (.Name "zip" p) [e, e2] [] pos) (iLT X.K ta) := by
  intro pins s σ H R I h
  refine Call_ (ld_blt I hg hm boot_zip5 (PyProof.Rows.callWith_type1 (thn (ha pos pins s σ H _ I h) fun us s1 ⟨vs, H1, I1, r1, q1⟩ => ?_) hs hpl))
  obtain ⟨a, b, xs, ys, ex, hsx, hsy, go⟩ := q1
  subst ex
  cases r1 with
  | cons r rr =>
    cases rr with
    | cons r' rr =>
      cases rr
      cases r
      cases r'
      obtain ⟨its, rv, p1, _⟩ := I1.list hsx
      obtain ⟨its2, rv2, p2, _⟩ := I1.tuple hsy
      have la : a < s1.heap.objs.size := p1.lt
      have lb : b < s1.heap.objs.size := p2.lt
      refine zlt_call p1.isList (isTuple_of p2) fun h' hq hti htu h1 h2 hk => wpAny_pyIter_zip hq ?_
      have I2 : L2.Inv X pins σ H1 { s1 with heap := h' } := I1.kept (t' := s1.toks) hk
      refine ⟨s1.heap.objs.size + 4, [s1.heap.objs.size + 4, s1.heap.objs.size + 2, s1.heap.objs.size + 3, s1.heap.objs.size, s1.heap.objs.size + 1], _, _, H1, rfl, I2, turn_LT (PySem.W.ktu_apart s1.heap.objs.size a b la lb), ⟨hq, hti, ⟨_, _, htu⟩, h1, h2⟩, fun c hcm => ?_, go⟩
      have e' : c = s1.heap.objs.size + 4 ∨ c = s1.heap.objs.size + 2 ∨ c = s1.heap.objs.size + 3 ∨ c = s1.heap.objs.size ∨ c = s1.heap.objs.size + 1 := by simpa using hcm
      have hle : s1.heap.objs.size ≤ c := by
        rcases e' with z | z | z | z | z <;> rw [z] <;> first | exact Nat.le_add_right _ _ | exact Nat.le_refl _
      exact I1.fpOk hle (I1.hok.fresh hle)
/-- the form one uses: both leave as they are -/
theorem for_LT {K : PySem.W.Frag} {a b : Addr} {xs ys : List V} {g : TG} {tb : TS} {D : Ends} {σ : L2.St} {H : Hp} (Pv : Nat → L2.St → Hp → Prop) (h0 : Pv 0 σ H) (hl : ∀ i σ H, i ≤ xs.length → Pv i σ H → SqL K H a xs ∧ SqT K H b ys) (hlen : xs.length ≤ ys.length)
    (hs : ∀ i x y σ H T, xs[i]? = some x → ys[i]? = some y → Pv i σ H → H T = none → g (.ref T) σ (upd H T (.tup [x, y])) fun σ2 H2 => tb { D with nx := Pv (i + 1), ct := Pv (i + 1), bk := D.nx } σ2 H2) (hd : ∀ σ H, Pv xs.length σ H → D.nx σ H) :
    ∃ W : Nat → Nat → L2.St → Hp → Prop, (∃ m, W 0 m σ H) ∧ ∀ i m σ H, W i m σ H →
      ((ItLT K a b).stop i H ∧ D.nx σ H) ∨ ((ItLT K a b).go i H ∧ ∃ N : L2.St → Hp → Prop, (∀ σ' H', N σ' H' → ∃ m', m' < m ∧ W (i + 1) m' σ' H') ∧ ∀ x H', (ItLT K a b).yld i H x H' → g x σ H' fun σ2 H2 => tb { D with nx := N, ct := N, bk := D.nx } σ2 H2) := by
  refine ⟨fun i m σ H => m = xs.length - i ∧ i ≤ xs.length ∧ Pv i σ H, ⟨xs.length, by simp, Nat.zero_le _, h0⟩, ?_⟩
  rintro i m σ H ⟨rfl, hi, p⟩
  obtain ⟨q1, q2⟩ := hl i σ H hi p
  by_cases hlt : i < xs.length
  · have hx : xs[i]? = some xs[i] := List.getElem?_eq_getElem hlt
    have hy : ys[i]? = some (ys[i]'(by omega)) := List.getElem?_eq_getElem (by omega)
    refine .inr ⟨⟨xs, ys, _, _, q1, q2, hx, hy⟩, Pv (i + 1), fun σ' H' p' => ⟨xs.length - (i + 1), by omega, rfl, hlt, p'⟩, fun v H' yl => ?_⟩
    obtain ⟨T, x, y, rfl, hT, rfl, ex, ey⟩ := yl
    exact hs i x y σ H T (ex xs q1) (ey ys q2) p hT
  · have e : i = xs.length := by omega
    subst e
    exact .inl ⟨⟨xs, q1, Nat.le_refl _⟩, hd σ H p⟩
end RF
end
section
set_option linter.all false
set_option Elab.async false
set_option maxRecDepth 100000
set_option maxHeartbeats 4000000
namespace RF
open PySem PySem.Spec PyProof.Rows L2
def top (i : Nat) : Stmt := PySem.Challenge.pw_radiofood_s01_answers.main.body.getD i (.Pass ⟨0, 0, 0, 0⟩)
abbrev s_call_come : Stmt := top 40
theorem sc_call_come : FnScope ["world", "party", "d"] ["world", "party", "d"] (defScope s_call_come) := ⟨rfl, rfl, rfl, by decide +kernel, rfl, by decide +kernel, by decide +kernel⟩
abbrev s_call_lay : Stmt := top 41
theorem sc_call_lay : FnScope ["world", "party", "n", "entry"] ["world", "party", "n"] (defScope s_call_lay) := ⟨rfl, rfl, rfl, by decide +kernel, rfl, by decide +kernel, by decide +kernel⟩
abbrev s_put_into_tin : Stmt := top 42
theorem sc_put_into_tin : FnScope ["world", "entry", "tin"] ["world", "entry"] (defScope s_put_into_tin) := ⟨rfl, rfl, rfl, by decide +kernel, rfl, by decide +kernel, by decide +kernel⟩
abbrev s_call_split : Stmt := top 43
theorem sc_call_split : FnScope ["world", "party", "i", "n", "entry", "first", "second"] ["world", "party", "i", "n"] (defScope s_call_split) := ⟨rfl, rfl, rfl, by decide +kernel, rfl, by decide +kernel, by decide +kernel⟩
abbrev s_call_join : Stmt := top 44
theorem sc_call_join : FnScope ["world", "party", "i", "j", "one", "another", "entry"] ["world", "party", "i", "j"] (defScope s_call_join) := ⟨rfl, rfl, rfl, by decide +kernel, rfl, by decide +kernel, by decide +kernel⟩
abbrev s_call_use : Stmt := top 45
theorem sc_call_use : FnScope ["world", "party", "i", "entry"] ["world", "party", "i"] (defScope s_call_use) := ⟨rfl, rfl, rfl, by decide +kernel, rfl, by decide +kernel, by decide +kernel⟩
abbrev s_eat_from_tin : Stmt := top 46
theorem sc_eat_from_tin : FnScope ["world", "party", "entry", "tin"] ["world", "party", "entry"] (defScope s_eat_from_tin) := ⟨rfl, rfl, rfl, by decide +kernel, rfl, by decide +kernel, by decide +kernel⟩
abbrev s_call_look : Stmt := top 47
theorem sc_call_look : FnScope ["world", "party", "tin", "told", "entry"] ["world", "party"] (defScope s_call_look) := ⟨rfl, rfl, rfl, by decide +kernel, rfl, by decide +kernel, by decide +kernel⟩
abbrev s_unfinished_here : Stmt := top 48
theorem sc_unfinished_here : FnScope ["party", "here", "entry"] ["party"] (defScope s_unfinished_here) := ⟨rfl, rfl, rfl, by decide +kernel, rfl, by decide +kernel, by decide +kernel⟩
abbrev s_mark_by_tin : Stmt := top 49
theorem sc_mark_by_tin : FnScope ["tin", "entry"] ["tin", "entry"] (defScope s_mark_by_tin) := ⟨rfl, rfl, rfl, by decide +kernel, rfl, by decide +kernel, by decide +kernel⟩
abbrev s_Entry___init__ : Stmt := inClass (top 51) 0
theorem sc_Entry___init__ : FnScope ["self", "number", "depot", "rations", "mark", "other"] ["self", "number", "depot", "rations", "mark", "other"] (defScope s_Entry___init__) := ⟨rfl, rfl, rfl, by decide +kernel, rfl, by decide +kernel, by decide +kernel⟩
abbrev s_Party___init__ : Stmt := inClass (top 52) 0
theorem sc_Party___init__ : FnScope ["self", "who"] ["self", "who"] (defScope s_Party___init__) := ⟨rfl, rfl, rfl, by decide +kernel, rfl, by decide +kernel, by decide +kernel⟩
abbrev s_Party_entry_of : Stmt := inClass (top 52) 1
theorem sc_Party_entry_of : FnScope ["self", "number", "entry"] ["self", "number"] (defScope s_Party_entry_of) := ⟨rfl, rfl, rfl, by decide +kernel, rfl, by decide +kernel, by decide +kernel⟩
abbrev s_Party_entry_marked : Stmt := inClass (top 52) 2
theorem sc_Party_entry_marked : FnScope ["self", "number", "mark", "entry"] ["self", "number", "mark"] (defScope s_Party_entry_marked) := ⟨rfl, rfl, rfl, by decide +kernel, rfl, by decide +kernel, by decide +kernel⟩
abbrev s_Party_put_entry : Stmt := inClass (top 52) 3
theorem sc_Party_put_entry : FnScope ["self", "number", "depot", "rations", "mark", "other", "entry"] ["self", "number", "depot", "rations", "mark", "other"] (defScope s_Party_put_entry) := ⟨rfl, rfl, rfl, by decide +kernel, rfl, by decide +kernel, by decide +kernel⟩
abbrev s_Party_put_new_entry : Stmt := inClass (top 52) 4
theorem sc_Party_put_new_entry : FnScope ["self", "depot", "rations", "mark", "other"] ["self", "depot", "rations", "mark", "other"] (defScope s_Party_put_new_entry) := ⟨rfl, rfl, rfl, by decide +kernel, rfl, by decide +kernel, by decide +kernel⟩
abbrev s_Tin___init__ : Stmt := inClass (top 53) 0
theorem sc_Tin___init__ : FnScope ["self"] ["self"] (defScope s_Tin___init__) := ⟨rfl, rfl, rfl, by decide +kernel, rfl, by decide +kernel, by decide +kernel⟩
abbrev s_Message___init__ : Stmt := inClass (top 54) 0
theorem sc_Message___init__ : FnScope ["self", "kind", "sender", "receiver", "number", "depot", "rations"] ["self", "kind", "sender", "receiver", "number", "depot", "rations"] (defScope s_Message___init__) := ⟨rfl, rfl, rfl, by decide +kernel, rfl, by decide +kernel, by decide +kernel⟩
abbrev s_World___init__ : Stmt := inClass (top 55) 0
theorem sc_World___init__ : FnScope ["self"] ["self"] (defScope s_World___init__) := ⟨rfl, rfl, rfl, by decide +kernel, rfl, by decide +kernel, by decide +kernel⟩
abbrev s_World_begin : Stmt := inClass (top 55) 1
theorem sc_World_begin : FnScope ["self", "parties", "depots", "depot", "who"] ["self", "parties", "depots"] (defScope s_World_begin) := ⟨rfl, rfl, rfl, by decide +kernel, rfl, by decide +kernel, by decide +kernel⟩
abbrev s_World_cuts_off : Stmt := inClass (top 55) 2
theorem sc_World_cuts_off : FnScope ["self"] ["self"] (defScope s_World_cuts_off) := ⟨rfl, rfl, rfl, by decide +kernel, rfl, by decide +kernel, by decide +kernel⟩
abbrev s_World_put_message : Stmt := inClass (top 55) 3
theorem sc_World_put_message : FnScope ["self", "message"] ["self", "message"] (defScope s_World_put_message) := ⟨rfl, rfl, rfl, by decide +kernel, rfl, by decide +kernel, by decide +kernel⟩
abbrev s_air_is_full : Stmt := top 57
theorem sc_air_is_full : FnScope ["world"] ["world"] (defScope s_air_is_full) := ⟨rfl, rfl, rfl, by decide +kernel, rfl, by decide +kernel, by decide +kernel⟩
abbrev s_call_give : Stmt := top 58
theorem sc_call_give : FnScope ["world", "party", "i", "q", "entry", "given"] ["world", "party", "i", "q"] (defScope s_call_give) := ⟨rfl, rfl, rfl, by decide +kernel, rfl, by decide +kernel, by decide +kernel⟩
abbrev s_send_about : Stmt := top 59
theorem sc_send_about : FnScope ["world", "party", "given", "kind"] ["world", "party", "given", "kind"] (defScope s_send_about) := ⟨rfl, rfl, rfl, by decide +kernel, rfl, by decide +kernel, by decide +kernel⟩
abbrev s_call_again : Stmt := top 60
theorem sc_call_again : FnScope ["world", "party", "i"] ["world", "party", "i"] (defScope s_call_again) := ⟨rfl, rfl, rfl, by decide +kernel, rfl, by decide +kernel, by decide +kernel⟩
abbrev s_call_ask : Stmt := top 61
theorem sc_call_ask : FnScope ["world", "party", "i"] ["world", "party", "i"] (defScope s_call_ask) := ⟨rfl, rfl, rfl, by decide +kernel, rfl, by decide +kernel, by decide +kernel⟩
abbrev s_send_once_more : Stmt := top 62
theorem sc_send_once_more : FnScope ["world", "party", "i", "kind", "given"] ["world", "party", "i", "kind"] (defScope s_send_once_more) := ⟨rfl, rfl, rfl, by decide +kernel, rfl, by decide +kernel, by decide +kernel⟩
abbrev s_call_hear : Stmt := top 63
theorem sc_call_hear : FnScope ["world", "m"] ["world", "m"] (defScope s_call_hear) := ⟨rfl, rfl, rfl, by decide +kernel, rfl, by decide +kernel, by decide +kernel⟩
abbrev s_hear_message : Stmt := top 64
theorem sc_hear_message : FnScope ["world", "message"] ["world", "message"] (defScope s_hear_message) := ⟨rfl, rfl, rfl, by decide +kernel, rfl, by decide +kernel, by decide +kernel⟩
abbrev s_hear_and_answer : Stmt := top 65
theorem sc_hear_and_answer : FnScope ["world", "message", "mark", "party", "entry", "kind"] ["world", "message", "mark"] (defScope s_hear_and_answer) := ⟨rfl, rfl, rfl, by decide +kernel, rfl, by decide +kernel, by decide +kernel⟩
abbrev s_answer_to : Stmt := top 66
theorem sc_answer_to : FnScope ["message", "kind"] ["message", "kind"] (defScope s_answer_to) := ⟨rfl, rfl, rfl, by decide +kernel, rfl, by decide +kernel, by decide +kernel⟩
abbrev s_hear_answer : Stmt := top 67
theorem sc_hear_answer : FnScope ["world", "message", "mark", "given"] ["world", "message", "mark"] (defScope s_hear_answer) := ⟨rfl, rfl, rfl, by decide +kernel, rfl, by decide +kernel, by decide +kernel⟩
abbrev s_call_clear : Stmt := top 68
theorem sc_call_clear : FnScope ["world", "gifts", "party", "given"] ["world"] (defScope s_call_clear) := ⟨rfl, rfl, rfl, by decide +kernel, rfl, by decide +kernel, by decide +kernel⟩
abbrev s_unsettled_gifts : Stmt := top 69
theorem sc_unsettled_gifts : FnScope ["world", "gifts", "party", "entry"] ["world"] (defScope s_unsettled_gifts) := ⟨rfl, rfl, rfl, by decide +kernel, rfl, by decide +kernel, by decide +kernel⟩
abbrev s_settle_gift : Stmt := top 70
theorem sc_settle_gift : FnScope ["world", "party", "given", "gift", "heard"] ["world", "party", "given"] (defScope s_settle_gift) := ⟨rfl, rfl, rfl, by decide +kernel, rfl, by decide +kernel, by decide +kernel⟩
abbrev s_call_paper : Stmt := top 72
theorem sc_call_paper : FnScope ["party", "told", "entry"] ["party"] (defScope s_call_paper) := ⟨rfl, rfl, rfl, by decide +kernel, rfl, by decide +kernel, by decide +kernel⟩
abbrev s_entry_told : Stmt := top 73
theorem sc_entry_told : FnScope ["entry"] ["entry"] (defScope s_entry_told) := ⟨rfl, rfl, rfl, by decide +kernel, rfl, by decide +kernel, by decide +kernel⟩
abbrev s_call_tin : Stmt := top 74
theorem sc_call_tin : FnScope ["world", "d", "tin"] ["world", "d"] (defScope s_call_tin) := ⟨rfl, rfl, rfl, by decide +kernel, rfl, by decide +kernel, by decide +kernel⟩
abbrev s_call_counts : Stmt := top 75
theorem sc_call_counts : FnScope ["world", "party", "d", "entry"] ["world", "party", "d"] (defScope s_call_counts) := ⟨rfl, rfl, rfl, by decide +kernel, rfl, by decide +kernel, by decide +kernel⟩
abbrev s_call_message : Stmt := top 76
theorem sc_call_message : FnScope ["world", "m", "message"] ["world", "m"] (defScope s_call_message) := ⟨rfl, rfl, rfl, by decide +kernel, rfl, by decide +kernel, by decide +kernel⟩
abbrev s_call_audit : Stmt := top 77
theorem sc_call_audit : FnScope ["world", "d", "tin", "alive", "under_way", "entry"] ["world", "d"] (defScope s_call_audit) := ⟨rfl, rfl, rfl, by decide +kernel, rfl, by decide +kernel, by decide +kernel⟩
abbrev s_entries_of_depot : Stmt := top 78
theorem sc_entries_of_depot : FnScope ["world", "d", "entries", "party", "entry"] ["world", "d"] (defScope s_entries_of_depot) := ⟨rfl, rfl, rfl, by decide +kernel, rfl, by decide +kernel, by decide +kernel⟩
abbrev s_is_alive : Stmt := top 79
theorem sc_is_alive : FnScope ["tin", "entry"] ["tin", "entry"] (defScope s_is_alive) := ⟨rfl, rfl, rfl, by decide +kernel, rfl, by decide +kernel, by decide +kernel⟩
abbrev s_is_under_way : Stmt := top 80
theorem sc_is_under_way : FnScope ["world", "entry", "there"] ["world", "entry"] (defScope s_is_under_way) := ⟨rfl, rfl, rfl, by decide +kernel, rfl, by decide +kernel, by decide +kernel⟩
abbrev s_call_entry : Stmt := top 81
theorem sc_call_entry : FnScope ["party", "i", "entry"] ["party", "i"] (defScope s_call_entry) := ⟨rfl, rfl, rfl, by decide +kernel, rfl, by decide +kernel, by decide +kernel⟩
abbrev s_call_air : Stmt := top 82
theorem sc_call_air : FnScope ["world", "party"] ["world"] (defScope s_call_air) := ⟨rfl, rfl, rfl, by decide +kernel, rfl, by decide +kernel, by decide +kernel⟩
abbrev s_answers : Stmt := top 85
theorem sc_answers : FnScope ["calls", "world", "told", "at", "call", "behind", "answer"] ["calls"] (defScope s_answers) := ⟨rfl, rfl, rfl, by decide +kernel, rfl, by decide +kernel, by decide +kernel⟩
abbrev s_answer_call : Stmt := top 86
theorem sc_answer_call : FnScope ["world", "call", "numbers"] ["world", "call", "numbers"] (defScope s_answer_call) := ⟨rfl, rfl, rfl, by decide +kernel, rfl, by decide +kernel, by decide +kernel⟩
abbrev s_are_in_range : Stmt := top 87
theorem sc_are_in_range : FnScope ["numbers", "ranges", "number", "bounds"] ["numbers", "ranges"] (defScope s_are_in_range) := ⟨rfl, rfl, rfl, by decide +kernel, rfl, by decide +kernel, by decide +kernel⟩
abbrev s_names_a_party : Stmt := top 88
theorem sc_names_a_party : FnScope ["call"] ["call"] (defScope s_names_a_party) := ⟨rfl, rfl, rfl, by decide +kernel, rfl, by decide +kernel, by decide +kernel⟩
abbrev s_answer_party : Stmt := top 89
theorem sc_answer_party : FnScope ["world", "party", "call", "numbers"] ["world", "party", "call", "numbers"] (defScope s_answer_party) := ⟨rfl, rfl, rfl, by decide +kernel, rfl, by decide +kernel, by decide +kernel⟩
abbrev s_answer_all : Stmt := top 90
theorem sc_answer_all : FnScope ["world", "call", "numbers"] ["world", "call", "numbers"] (defScope s_answer_all) := ⟨rfl, rfl, rfl, by decide +kernel, rfl, by decide +kernel, by decide +kernel⟩
abbrev s_call_arm : Stmt := top 91
theorem sc_call_arm : FnScope ["world", "j"] ["world", "j"] (defScope s_call_arm) := ⟨rfl, rfl, rfl, by decide +kernel, rfl, by decide +kernel, by decide +kernel⟩
def fieldsE : List Str := ["number", "depot", "rations", "mark", "other"]
def fieldsP : List Str := ["who", "place", "made", "entries", "eaten"]
def fieldsT : List Str := ["food", "laid", "used"]
def fieldsM : List Str := ["kind", "sender", "receiver", "number", "depot", "rations"]
def fieldsW : List Str := ["parties", "tins", "messages", "armed", "rations_laid"]
/-- a tuple that stands in the module -/
def TupK (K : PySem.W.Frag) (a : Addr) (xs : List V) : Prop := ∃ (o : Obj) (its : Array Value) (n : Nat), K.lookup a = some o ∧ o.cls = .type "tuple" ∧ o.data = .seq its n ∧ its.size ≤ sizeLine ∧ Vals xs its.toList
/-- the bounds of a call's numbers, as the document tells them -/
def bnds : Nat → List (Int × Int)
  | 0 => [(1, 6), (1, 6)] | 1 => [(0, 5), (0, 6)] | 2 => [(0, 5), (1, 1000)] | 3 => [(0, 5), (100, 799), (1, 1000)] | 4 => [(0, 5), (100, 799), (100, 799)] | 5 => [(0, 5), (100, 799), (0, 5)]
  | 6 => [(0, 5), (100, 799)] | 7 => [(0, 5), (100, 799)] | 8 => [(0, 399)] | 9 => [(0, 5), (100, 799)] | 10 => [(0, 5)] | 11 => [(0, 1000)] | 12 => [] | 13 => [(0, 5)] | 14 => [(0, 5)] | 15 => [(0, 5), (0, 5)] | 16 => [(0, 399)] | 17 => [(0, 5)] | 18 => [(0, 5), (100, 799)] | _ => []
def PairsK (K : PySem.W.Frag) (b : Addr) (bs : List (Int × Int)) : Prop := ∃ rs : List Addr, TupK K b (rs.map V.ref) ∧ rs.length = bs.length ∧ ∀ (i : Nat) (r : Addr) (x : Int × Int), rs[i]? = some r → bs[i]? = some x → TupK K r [.int x.1, .int x.2]
def RangesK (K : PySem.W.Frag) (r : Addr) : Prop := ∃ ts : List Addr, TupK K r (ts.map V.ref) ∧ ts.length = 21 ∧ ∀ (i : Nat) (t : Addr), ts[i]? = some t → PairsK K t (bnds i)
structure Txt (K : PySem.W.Frag) (mg : Str → Option Value) (C : Cs) : Prop where
  cE : Cls K C.E
  cP : Cls K C.P
  cT : Cls K C.T
  cM : Cls K C.M
  cW : Cls K C.W
  nE : ∀ f ∈ fieldsE, NoAttr K C.E f
  nP : ∀ f ∈ fieldsP, NoAttr K C.P f
  nT : ∀ f ∈ fieldsT, NoAttr K C.T f
  nM : ∀ f ∈ fieldsM, NoAttr K C.M f
  nW : ∀ f ∈ fieldsW, NoAttr K C.W f
  g_HELD : GC mg "HELD" (.int 0)
  g_BEING_LAID : GC mg "BEING_LAID" (.int 1)
  g_GIVEN : GC mg "GIVEN" (.int 2)
  g_SETTLED : GC mg "SETTLED" (.int 3)
  g_BEING_USED : GC mg "BEING_USED" (.int 4)
  g_USED : GC mg "USED" (.int 5)
  g_OVER : GC mg "OVER" (.int 6)
  g_REFUSED : GC mg "REFUSED" (.int 7)
  g_KIND_GIFT : GC mg "KIND_GIFT" (.int 0)
  g_KIND_GOT : GC mg "KIND_GOT" (.int 1)
  g_KIND_ASK : GC mg "KIND_ASK" (.int 2)
  g_KIND_REFUSED : GC mg "KIND_REFUSED" (.int 3)
  g_BEGIN : GC mg "BEGIN" (.int 0)
  g_COME : GC mg "COME" (.int 1)
  g_LAY : GC mg "LAY" (.int 2)
  g_SPLIT : GC mg "SPLIT" (.int 3)
  g_JOIN : GC mg "JOIN" (.int 4)
  g_GIVE : GC mg "GIVE" (.int 5)
  g_AGAIN : GC mg "AGAIN" (.int 6)
  g_ASK : GC mg "ASK" (.int 7)
  g_HEAR : GC mg "HEAR" (.int 8)
  g_USE : GC mg "USE" (.int 9)
  g_LOOK : GC mg "LOOK" (.int 10)
  g_ARM : GC mg "ARM" (.int 11)
  g_DISARM : GC mg "DISARM" (.int 12)
  g_PAPER : GC mg "PAPER" (.int 13)
  g_TIN : GC mg "TIN" (.int 14)
  g_COUNTS : GC mg "COUNTS" (.int 15)
  g_MESSAGE : GC mg "MESSAGE" (.int 16)
  g_AUDIT : GC mg "AUDIT" (.int 17)
  g_ENTRY : GC mg "ENTRY" (.int 18)
  g_CLEAR : GC mg "CLEAR" (.int 19)
  g_AWAY : GC mg "AWAY" (.int (-1))
  g_NOT_ARMED : GC mg "NOT_ARMED" (.int (-1))
  g_NO_ANSWER : GC mg "NO_ANSWER" (.int (-1))
  g_CUT_OFF : GC mg "CUT_OFF" (.int 1)
  g_MOST_MADE : GC mg "MOST_MADE" (.int 60)
  g_MOST_MESSAGES : GC mg "MOST_MESSAGES" (.int 400)
  g_MOST_LAID : GC mg "MOST_LAID" (.int 1000000)
  g_RANGES : GC mg "RANGES" (.ref C.R)
  rg : RangesK K C.R
  b_len : mg "len" = none
  b_range : mg "range" = none
  b_zip : mg "zip" = none
  b_sum : mg "sum" = none
end RF
end
section
set_option linter.all false
set_option Elab.async false
set_option maxRecDepth 100000
set_option maxHeartbeats 4000000
namespace RF
open PySem PySem.Spec PyProof.Rows L2
/-! ### reading the world -/
section
variable {C : Cs} {v : Vw} {H : Hp}
theorem At.world (W : At C v H) : H (v.G .world) = some (.ins C.W (v.D .world) (wF (v.G .lp) (v.G .lt) (v.G .lm) (armedI v.s.armed) v.s.laid)) := W.is .world _ rfl
theorem At.lp (W : At C v H) : H (v.G .lp) = some (.lst (refsV v.s.papers.length fun i => v.G (.party i))) := W.is .lp _ rfl
theorem At.lt (W : At C v H) : H (v.G .lt) = some (.lst (refsV v.s.tins.length fun i => v.G (.tin i))) := W.is .lt _ rfl
theorem At.lm (W : At C v H) : H (v.G .lm) = some (.lst (refsV v.s.air.length fun i => v.G (.msg i))) := W.is .lm _ rfl
theorem cont_party {i : Nat} (h : i < v.s.papers.length) : cont C v (.party i) = some (.ins C.P (v.D (.party i)) (pF i ((Vbexac.place v.s i : Int) - 1) (Vbexac.paper v.s i).next (v.G (.elist i)) (v.s.eaten.getD i 0 : Nat))) := if_pos h
theorem cont_elist {i : Nat} (h : i < v.s.papers.length) : cont C v (.elist i) = some (.lst (refsV (Vbexac.paper v.s i).entries.length fun j => v.G (.entry i j))) := if_pos h
theorem cont_entry {i j : Nat} {e : Vbexac.Entry} (h : (Vbexac.paper v.s i).entries[j]? = some e) : cont C v (.entry i j) = some (.ins C.E (v.D (.entry i j)) (eF e)) := by
  show ((Vbexac.paper v.s i).entries[j]?).map _ = _
  rw [h]; rfl
theorem cont_tin {d : Nat} (h : d < v.s.tins.length) : cont C v (.tin d) = some (.ins C.T (v.D (.tin d)) (tF (Vbexac.tin v.s d).food (v.G (.laid d)) (v.G (.used d)))) := if_pos h
theorem cont_laid {d : Nat} (h : d < v.s.tins.length) : cont C v (.laid d) = some (.lst (natsV (Vbexac.tin v.s d).laid)) := if_pos h
theorem cont_used {d : Nat} (h : d < v.s.tins.length) : cont C v (.used d) = some (.lst (natsV (Vbexac.tin v.s d).used)) := if_pos h
theorem cont_msg {k : Nat} {m : Vbexac.Message} (h : v.s.air[k]? = some m) : cont C v (.msg k) = some (.ins C.M (v.D (.msg k)) (mF m)) := by
  show (v.s.air[k]?).map _ = _
  rw [h]; rfl
theorem At.party (W : At C v H) {i : Nat} (h : i < v.s.papers.length) : H (v.G (.party i)) = some (.ins C.P (v.D (.party i)) (pF i ((Vbexac.place v.s i : Int) - 1) (Vbexac.paper v.s i).next (v.G (.elist i)) (v.s.eaten.getD i 0 : Nat))) := W.is _ _ (cont_party h)
theorem At.elist (W : At C v H) {i : Nat} (h : i < v.s.papers.length) : H (v.G (.elist i)) = some (.lst (refsV (Vbexac.paper v.s i).entries.length fun j => v.G (.entry i j))) := W.is _ _ (cont_elist h)
theorem At.entry (W : At C v H) {i j : Nat} {e : Vbexac.Entry} (h : (Vbexac.paper v.s i).entries[j]? = some e) : H (v.G (.entry i j)) = some (.ins C.E (v.D (.entry i j)) (eF e)) := W.is _ _ (cont_entry h)
theorem At.tin (W : At C v H) {d : Nat} (h : d < v.s.tins.length) : H (v.G (.tin d)) = some (.ins C.T (v.D (.tin d)) (tF (Vbexac.tin v.s d).food (v.G (.laid d)) (v.G (.used d)))) := W.is _ _ (cont_tin h)
theorem At.laid (W : At C v H) {d : Nat} (h : d < v.s.tins.length) : H (v.G (.laid d)) = some (.lst (natsV (Vbexac.tin v.s d).laid)) := W.is _ _ (cont_laid h)
theorem At.used (W : At C v H) {d : Nat} (h : d < v.s.tins.length) : H (v.G (.used d)) = some (.lst (natsV (Vbexac.tin v.s d).used)) := W.is _ _ (cont_used h)
theorem At.msg (W : At C v H) {k : Nat} {m : Vbexac.Message} (h : v.s.air[k]? = some m) : H (v.G (.msg k)) = some (.ins C.M (v.D (.msg k)) (mF m)) := W.is _ _ (cont_msg h)
theorem refsV_len (n : Nat) (f : Nat → Addr) : (refsV n f).length = n := by unfold refsV; simp
theorem refsV_get {n : Nat} {f : Nat → Addr} {i : Nat} (h : i < n) : (refsV n f)[i]? = some (V.ref (f i)) := by unfold refsV; simp [h]
theorem refsV_of {n : Nat} {f : Nat → Addr} {i : Nat} {x : V} (h : (refsV n f)[i]? = some x) : i < n ∧ x = .ref (f i) := by
  have hi : i < n := by
    have := (List.getElem?_eq_some_iff.mp h).1
    rwa [refsV_len] at this
  rw [refsV_get hi] at h
  exact ⟨hi, (Option.some.inj h).symm⟩
theorem markN_inj {a b : Vbexac.Mark} (h : Vbexac.markNumber a = Vbexac.markNumber b) : a = b := by cases a <;> cases b <;> simp [Vbexac.markNumber] at h ⊢
/-- the cutting off is set -/
theorem At.armed (W : At C v H) (a : Option Nat) : At C { v with s := { v.s with armed := a } } (upd H (v.G .world) (.ins C.W (v.D .world) (wF (v.G .lp) (v.G .lt) (v.G .lm) (armedI a) v.s.laid))) ∧
    Ext C v H { v with s := { v.s with armed := a } } (upd H (v.G .world) (.ins C.W (v.D .world) (wF (v.G .lp) (v.G .lt) (v.G .lm) (armedI a) v.s.laid))) :=
  W.one (s' := { v.s with armed := a }) (r := .world) rfl rfl fun q hq => by cases q <;> first | rfl | exact absurd rfl hq
end
def sp_World_cuts_off (C : Cs) : Sp := fun vs H Q _ => ∃ v : Vw, At C v H ∧ vs = [.ref (v.G .world)] ∧ ∀ H', At C { v with s := (cut v.s).2 } H' → Ext C v H { v with s := (cut v.s).2 } H' → Q (.bl (cut v.s).1) H'
def sp_Party_entry_of (C : Cs) : Sp := fun vs H Q _ => ∃ (v : Vw) (i n : Nat), At C v H ∧ vs = [.ref (v.G (.party i)), .int n] ∧ i < v.s.papers.length ∧
  (∀ j e, (Vbexac.paper v.s i).entries[j]? = some e → Vbexac.entry v.s i n = some e → Q (.ref (v.G (.entry i j))) H) ∧ (Vbexac.entry v.s i n = none → Q .non H)
def sp_Party_entry_marked (C : Cs) : Sp := fun vs H Q _ => ∃ (v : Vw) (i n : Nat) (m : Vbexac.Mark), At C v H ∧ vs = [.ref (v.G (.party i)), .int n, .int (Vbexac.markNumber m)] ∧ i < v.s.papers.length ∧
  (∀ j e, (Vbexac.paper v.s i).entries[j]? = some e → Vbexac.entry v.s i n = some e → e.mark = m → Q (.ref (v.G (.entry i j))) H) ∧ ((∀ e, Vbexac.entry v.s i n = some e → e.mark ≠ m) → Q .non H)
section
variable {P : Program} {w : World} {K : PySem.W.Frag} {mg : Str → Option Value} {base : Heap} {C : Cs}
theorem ok_World_cuts_off {f : Addr} {fd : FuncData} (F : Fun K "cuts_off" "World.cuts_off" s_World_cuts_off f fd) (T : Txt K mg C) : FnOk P w K mg base CX0 1 f fd ["self"] (sp_World_cuts_off C) := by
  refine F.ok sc_World_cuts_off (fun vs H Q E h => ?_) (fun cdv A outer s H vs Q E hr h => ?_)
  · obtain ⟨v, W, rfl, k⟩ := h
    rfl
  · obtain ⟨v, W, rfl, k⟩ := h
    refine ⟨_, (pss_cons (ps_if (pt_cmpR op_eq (pf T.cW (T.nW _ (by decide +kernel)) (pv 0)) (pe_gc T.g_NOT_ARMED) (nomark _)) (pss_one (ps_ret pe_bl)) pss_nil)
      (pss_cons (ps_if (pt_cmpR op_eq (pf T.cW (T.nW _ (by decide +kernel)) (pv 0)) pe_int (nomark _)) (pss_cons (psf T.cW (T.nW _ (by decide +kernel)) (pv 0) (pe_gc T.g_NOT_ARMED))
      (pss_one (ps_ret pe_bl))) pss_nil)
      (pss_cons (psa in_sub T.cW (T.nW _ (by decide +kernel)) (pv 0) pe_int)
      (pss_one (ps_ret pe_bl))))), ?_⟩
    refine ⟨_, rfl, _, _, _, _, rfl, W.world, rfl, rfl, _, rfl, ?_⟩
    cases ha : v.s.armed with
    | none =>
      rw [show cut v.s = (false, v.s) by unfold cut; rw [ha]] at k
      refine ite2 (fun _ => ?_) (fun h => absurd (decide_eq_true rfl) h)
      exact k H W Ext.refl
    | some n =>
      refine ite2 (fun h => ?_) (fun _ => ?_)
      · have := of_decide_eq_true h
        simp [armedI] at this <;> omega
      · refine ⟨_, rfl, _, _, _, _, rfl, W.world, rfl, rfl, _, rfl, ?_⟩
        rw [ha]
        cases n with
        | zero =>
          rw [show cut v.s = (true, { v.s with armed := none }) by unfold cut; rw [ha]] at k
          refine ite2 (fun _ => ?_) (fun h => absurd (decide_eq_true rfl) h)
          obtain ⟨W', X'⟩ := W.armed none
          exact ⟨_, rfl, _, _, _, _, rfl, W.world, (by show 5 < 1000; decide), rfl, k _ W' X'⟩
        | succ n =>
          rw [show cut v.s = (false, { v.s with armed := some n }) by unfold cut; rw [ha]] at k
          refine ite2 (fun h => ?_) (fun _ => ?_)
          · have := of_decide_eq_true h
            simp [armedI] at this <;> omega
          · obtain ⟨W', X'⟩ := W.armed (some n)
            refine ⟨_, rfl, _, _, _, _, rfl, W.world, rfl, _, _, _, _, rfl, W.world, (by show 5 < 1000; decide), rfl, ?_⟩
            rw [ha]
            have e : armedI (some (n + 1)) - 1 = armedI (some n) := by show ((n + 1 : Nat) : Int) - 1 = (n : Int); omega
            show Q (.bl false) (upd H (v.G .world) (.ins C.W (v.D .world) (wF (v.G .lp) (v.G .lt) (v.G .lm) (armedI (some (n + 1)) - 1) v.s.laid)))
            rw [e]
            exact k _ W' X'
theorem ok_Party_entry_of {f : Addr} {fd : FuncData} (F : Fun K "entry_of" "Party.entry_of" s_Party_entry_of f fd) (T : Txt K mg C) : FnOk P w K mg base CX0 1 f fd ["self", "number"] (sp_Party_entry_of C) := by
  refine F.ok sc_Party_entry_of (fun vs H Q E h => ?_) (fun cdv A outer s H vs Q E hr h => ?_)
  · obtain ⟨v, i, n, W, rfl, hi, k1, k2⟩ := h
    rfl
  · obtain ⟨v, i, n, W, rfl, hi, k1, k2⟩ := h
    refine ⟨_, (pss_cons (ps_for PassesOwn.never rfl (pi_list (pf T.cP (T.nP _ (by decide +kernel)) (pv 0))) (pg_name (i := 2) sc_Party_entry_of.nd rfl (Or.inl rfl)) (pss_one (ps_if (pt_cmpR op_eq (pf T.cE (T.nE _ (by decide +kernel)) (pv 2)) (pv 1) (nomark _)) (pss_one (ps_ret (pv 2))) pss_nil)))
      (pss_one (ps_ret pe_non))), ?_⟩
    have no : ∀ (j : Nat), (∀ (j' : Nat) (e : Vbexac.Entry), j' < j → (Vbexac.paper v.s i).entries[j']? = some e → e.id ≠ n) → ∀ e, (Vbexac.paper v.s i).entries[j]? = some e → e.id = n → Vbexac.entry v.s i n = some e := fun j hj e he hid => by
      unfold Vbexac.entry
      rw [List.find?_eq_some_iff_append]
      refine ⟨by simp [hid], (Vbexac.paper v.s i).entries.take j, (Vbexac.paper v.s i).entries.drop (j + 1), ?_, fun x hx => ?_⟩
      · obtain ⟨hl, ee⟩ := List.getElem?_eq_some_iff.mp he
        rw [← ee, ← List.drop_eq_getElem_cons hl, List.take_append_drop]
      · obtain ⟨j', hj', ex⟩ := List.mem_iff_getElem.mp hx
        rw [List.length_take] at hj'
        have := hj j' x (by omega) (by rw [← ex, List.getElem_take]; exact List.getElem?_eq_getElem (by omega))
        simpa using this
    refine ⟨_, rfl, _, _, _, _, rfl, W.party hi, rfl, _, rfl, ⟨_, SqL.of (W.elist hi)⟩, for_list (K := K) (a := v.G (.elist i)) (xs := refsV (Vbexac.paper v.s i).entries.length fun j => v.G (.entry i j))
      (fun j σ H' => ∃ x, σ = [some (.ref (v.G (.party i))), some (.int n), x] ∧ H' = H ∧ ∀ (j' : Nat) (e : Vbexac.Entry), j' < j → (Vbexac.paper v.s i).entries[j']? = some e → e.id ≠ n) ⟨none, rfl, rfl, fun j' e h => absurd h (Nat.not_lt_zero _)⟩ (fun j σ H' _ ⟨_, _, e, _⟩ => by rw [e]; exact SqL.of (W.elist hi)) ?_ ?_⟩
    · rintro j y σ H' hy ⟨x, rfl, rfl, hno⟩
      obtain ⟨hj, rfl⟩ := refsV_of hy
      obtain ⟨e, he⟩ : ∃ e, (Vbexac.paper v.s i).entries[j]? = some e := ⟨_, List.getElem?_eq_getElem hj⟩
      refine ⟨_, rfl, _, _, _, _, rfl, W.entry he, rfl, _, rfl, rfl, _, rfl, ?_⟩
      refine ite2 (fun h => ?_) (fun h => ?_)
      · have hid : e.id = n := by
          have := of_decide_eq_true h
          simp at this
          omega
        exact ⟨_, rfl, k1 j e he (no j hno e he hid)⟩
      · refine ⟨_, rfl, rfl, fun j' e' hj' he' => ?_⟩
        rcases Nat.lt_or_ge j' j with z | z
        · exact hno j' e' z he'
        · obtain rfl : j' = j := by omega
          rw [he] at he'
          cases he'
          intro z
          exact h (decide_eq_true (by rw [z]))
    · rintro σ H' ⟨x, rfl, rfl, hno⟩
      refine k2 ?_
      unfold Vbexac.entry
      refine List.find?_eq_none.mpr fun x hx => ?_
      obtain ⟨j', hj', ex⟩ := List.mem_iff_getElem.mp hx
      have := hno j' x (by rw [refsV_len]; exact hj') (by rw [List.getElem?_eq_getElem hj', ex])
      simpa using this
theorem ok_Party_entry_marked {f : Addr} {fd : FuncData} (F : Fun K "entry_marked" "Party.entry_marked" s_Party_entry_marked f fd) (T : Txt K mg C)
    (F_Party_entry_of : Mt P w K mg base C.P "entry_of" 1 ["self", "number"] (sp_Party_entry_of C)) : FnOk P w K mg base CX0 2 f fd ["self", "number", "mark"] (sp_Party_entry_marked C) := by
  refine F.ok sc_Party_entry_marked (fun vs H Q E h => ?_) (fun cdv A outer s H vs Q E hr h => ?_)
  · obtain ⟨v, i, n, m, W, rfl, hi, k1, k2⟩ := h
    rfl
  · obtain ⟨v, i, n, m, W, rfl, hi, k1, k2⟩ := h
    refine ⟨_, (pss_cons (ps_set (i := 3) sc_Party_entry_marked.nd rfl (Or.inl rfl) (pe_mt F_Party_entry_of (hr.mono (by decide)) (pv 0) (pa_cons (pv 1) pa_nil)))
      (pss_cons (ps_if (pw_and (pt_cmp (pc_notN (pv 3))) (pw_and1 (pt_cmpR op_eq (pf T.cE (T.nE _ (by decide +kernel)) (pv 3)) (pv 2) (nomark _)))).pt (pss_one (ps_ret (pv 3))) pss_nil)
      (pss_one (ps_ret pe_non)))), ?_⟩
    refine ⟨_, rfl, _, _, _, rfl, W.party hi, rfl, _, rfl, v, i, n, W, rfl, hi, fun j e he hf => ?_, fun hf => ?_⟩
    · refine ⟨_, rfl, _, rfl, ?_⟩
      refine iteT ⟨_, rfl, _, _, _, _, rfl, W.entry he, rfl, _, rfl, rfl, _, rfl, ?_⟩
      refine ite2 (fun h => ?_) (fun h => ?_)
      · refine ⟨_, rfl, k1 j e he hf (markN_inj ?_)⟩
        have := of_decide_eq_true h
        simp at this
        omega
      · refine k2 fun e' he' => ?_
        rw [hf] at he'
        cases he'
        intro z
        exact h (decide_eq_true (by rw [z]))
    · refine ⟨_, rfl, _, rfl, ?_⟩
      refine iteF ?_
      refine iteF ?_
      exact k2 fun e he => by rw [hf] at he; cases he
end
end RF
end
section
set_option linter.all false
set_option Elab.async false
set_option maxRecDepth 100000
set_option maxHeartbeats 4000000
namespace RF
open PySem PySem.Spec PyProof.Rows L2
/-! ### the world grows -/
section
variable {C : Cs} {v : Vw} {H : Hp}
theorem put_ne {r q : Role} {x dx : Addr} {s' : Vbexac.St} (h : q ≠ r) : (v.put r x dx s').G q = v.G q := if_neg h
theorem putD_ne {r q : Role} {x dx : Addr} {s' : Vbexac.St} (h : q ≠ r) : (v.put r x dx s').D q = v.D q := if_neg h
theorem put_at {r : Role} {x dx : Addr} {s' : Vbexac.St} : (v.put r x dx s').G r = x := if_pos rfl
theorem putD_at {r : Role} {x dx : Addr} {s' : Vbexac.St} : (v.put r x dx s').D r = dx := if_pos rfl
/-- a new instance that is not (yet) the world's -/
theorem At.made (W : At C v H) {x dx : Addr} {o1 o2 : HO} (h1 : H x = none) (h2 : H dx = none) : At C v (upd (upd H dx o1) x o2) ∧ Ext C v H v (upd (upd H dx o1) x o2) := by
  have n1 := W.new h1
  have n2 := W.new h2
  refine ⟨(W.other n2).other n1, fun b o h n => ?_, fun b f => .inl f, fun b h => upd_none (upd_none h)⟩
  rw [upd_ne (ne_of_none h h1), upd_ne (ne_of_none h h2)]; exact h
theorem At.laidNew (W : At C v H) {x : Addr} {o : HO} (h1 : H x = none) : At C v (upd H x o) ∧ Ext C v H v (upd H x o) := by
  refine ⟨W.other (W.new h1), fun b u h n => ?_, fun b f => .inl f, fun b h => upd_none h⟩
  rw [upd_ne (ne_of_none h h1)]; exact h
theorem refsV_snoc {n : Nat} {f g : Nat → Addr} {x : Addr} (h : ∀ j, j < n → g j = f j) (hx : g n = x) : refsV (n + 1) g = refsV n f ++ [V.ref x] := by
  unfold refsV
  rw [List.range_succ, List.map_append, List.map_singleton, hx]
  congr 1
  exact List.map_congr_left fun j hj => by rw [h j (List.mem_range.mp hj)]
theorem refsV_congr {n : Nat} {f g : Nat → Addr} (h : ∀ j, j < n → g j = f j) : refsV n g = refsV n f := by
  unfold refsV
  exact List.map_congr_left fun j hj => by rw [h j (List.mem_range.mp hj)]
theorem setPaper_len {s : Vbexac.St} {p : Nat} {x : Vbexac.Paper} : (Vbexac.setPaper s p x).papers.length = s.papers.length := by unfold Vbexac.setPaper; simp
/-- an entry is written -/
theorem At.write (W : At C v H) {i : Nat} {e : Vbexac.Entry} {x dx : Addr} (hi : i < v.s.papers.length) (n : ¬ Foot C v x) (hx : H x = some (.ins C.E dx (eF e))) :
    At C (v.put (.entry i (Vbexac.paper v.s i).entries.length) x dx (Vbexac.write v.s i e)) (upd H (v.G (.elist i)) (.lst (refsV (Vbexac.paper v.s i).entries.length (fun j => v.G (.entry i j)) ++ [.ref x]))) ∧
      ∀ {H0 : Hp}, H0 x = none → Ext C v H0 v H → Ext C v H0 (v.put (.entry i (Vbexac.paper v.s i).entries.length) x dx (Vbexac.write v.s i e)) (upd H (v.G (.elist i)) (.lst (refsV (Vbexac.paper v.s i).entries.length (fun j => v.G (.entry i j)) ++ [.ref x]))) := by
  have hp : ∀ q, Vbexac.paper (Vbexac.write v.s i e) q = if q = i then { next := (Vbexac.paper v.s i).next, entries := (Vbexac.paper v.s i).entries ++ [e] } else Vbexac.paper v.s q := fun q => by
    rw [write_add, add_paper hi]
  have hl : (Vbexac.write v.s i e).papers.length = v.s.papers.length := setPaper_len
  refine W.two (r0 := .elist i) (r1 := .entry i (Vbexac.paper v.s i).entries.length) (o0 := _) n hx (by intro z; cases z) ?_ (cont_elist hi) ?_ ?_ ?_
  · show ((Vbexac.paper v.s i).entries[(Vbexac.paper v.s i).entries.length]?).map _ = none
    rw [List.getElem?_eq_none (Nat.le_refl _)]; rfl
  · show (if i < (Vbexac.write v.s i e).papers.length then some (HO.lst (refsV (Vbexac.paper (Vbexac.write v.s i e) i).entries.length fun j => (v.put (.entry i (Vbexac.paper v.s i).entries.length) x dx (Vbexac.write v.s i e)).G (.entry i j))) else none) = _
    rw [hl, if_pos hi, hp, if_pos rfl, List.length_append]
    exact congrArg (fun z => some (HO.lst z)) (refsV_snoc (n := (Vbexac.paper v.s i).entries.length) (fun j hj => put_ne (fun z => by injection z with _ z; omega)) put_at)
  · show ((Vbexac.paper (Vbexac.write v.s i e) i).entries[_]?).map _ = _
    rw [hp, if_pos rfl]
    simp only [List.getElem?_concat_length, Option.map_some]
    rw [putD_at]
  · intro q h0 h1
    cases q with
    | world => rfl
    | lp => show some (HO.lst (refsV (Vbexac.write v.s i e).papers.length _)) = _; rw [hl]; rfl
    | lt => rfl
    | lm => rfl
    | party k =>
      show (if k < (Vbexac.write v.s i e).papers.length then _ else none) = (if _ then _ else none)
      rw [hl]
      have e2 : (Vbexac.paper (Vbexac.write v.s i e) k).next = (Vbexac.paper v.s k).next := by
        rw [hp]; split
        · rename_i z; rw [z]
        · rfl
      show (if k < v.s.papers.length then some (HO.ins C.P _ (pF k _ ((Vbexac.paper (Vbexac.write v.s i e) k).next : Nat) _ _)) else none) = _
      rw [e2]; rfl
    | elist k =>
      have hk : k ≠ i := fun z => h0 (by rw [z])
      show (if k < (Vbexac.write v.s i e).papers.length then some (HO.lst (refsV (Vbexac.paper (Vbexac.write v.s i e) k).entries.length _)) else none) = _
      rw [hl, hp, if_neg hk]
      have : (refsV (Vbexac.paper v.s k).entries.length fun j => (v.put (.entry i (Vbexac.paper v.s i).entries.length) x dx (Vbexac.write v.s i e)).G (.entry k j)) = refsV (Vbexac.paper v.s k).entries.length fun j => v.G (.entry k j) :=
        refsV_congr fun j _ => put_ne (fun z => by injection z with z; exact hk z)
      rw [this]; rfl
    | entry k j =>
      show ((Vbexac.paper (Vbexac.write v.s i e) k).entries[j]?).map (fun e' => HO.ins C.E ((v.put (.entry i (Vbexac.paper v.s i).entries.length) x dx (Vbexac.write v.s i e)).D (.entry k j)) (eF e')) = _
      rw [putD_ne h1, hp]
      by_cases z : k = i
      · subst z
        rw [if_pos rfl]
        show ((Vbexac.paper v.s k).entries ++ [e])[j]?.map _ = ((Vbexac.paper v.s k).entries[j]?).map _
        have hj : j ≠ (Vbexac.paper v.s k).entries.length := fun y => h1 (by rw [y])
        rcases Nat.lt_or_ge j (Vbexac.paper v.s k).entries.length with y | y
        · rw [List.getElem?_append_left y]
        · rw [List.getElem?_eq_none (by rw [List.length_append]; simp; omega), List.getElem?_eq_none y]
      · rw [if_neg z]; rfl
    | tin d => rfl
    | laid d => rfl
    | used d => rfl
    | msg k => rfl
/-- a promise is counted -/
theorem At.count (W : At C v H) {i k : Nat} (hi : i < v.s.papers.length) :
    At C { v with s := Vbexac.setPaper v.s i { Vbexac.paper v.s i with next := k } } (upd H (v.G (.party i)) (.ins C.P (v.D (.party i)) (pF i ((Vbexac.place v.s i : Int) - 1) k (v.G (.elist i)) (v.s.eaten.getD i 0 : Nat)))) ∧
      Ext C v H { v with s := Vbexac.setPaper v.s i { Vbexac.paper v.s i with next := k } } (upd H (v.G (.party i)) (.ins C.P (v.D (.party i)) (pF i ((Vbexac.place v.s i : Int) - 1) k (v.G (.elist i)) (v.s.eaten.getD i 0 : Nat)))) := by
  have hp : ∀ q, Vbexac.paper (Vbexac.setPaper v.s i { Vbexac.paper v.s i with next := k }) q = if q = i then { Vbexac.paper v.s i with next := k } else Vbexac.paper v.s q := fun q => by
    rw [paper_set]
    by_cases z : q = i
    · rw [if_pos ⟨z, hi⟩, if_pos z]
    · rw [if_neg (fun y => z y.1), if_neg z]
  have hl : (Vbexac.setPaper v.s i { Vbexac.paper v.s i with next := k }).papers.length = v.s.papers.length := setPaper_len
  have he : ∀ q, (Vbexac.paper (Vbexac.setPaper v.s i { Vbexac.paper v.s i with next := k }) q).entries = (Vbexac.paper v.s q).entries := fun q => by
    rw [hp]; split
    · rename_i z; rw [z]
    · rfl
  refine W.one (s' := Vbexac.setPaper v.s i { Vbexac.paper v.s i with next := k }) (r := .party i) (cont_party hi) ?_ ?_
  · show (if i < (Vbexac.setPaper v.s i _).papers.length then some (HO.ins C.P _ (pF i _ ((Vbexac.paper (Vbexac.setPaper v.s i { Vbexac.paper v.s i with next := k }) i).next : Nat) _ _)) else none) = _
    rw [hl, if_pos hi, hp, if_pos rfl]; rfl
  · intro q h1
    cases q with
    | world => rfl
    | lp => show some (HO.lst (refsV (Vbexac.setPaper v.s i _).papers.length _)) = _; rw [hl]; rfl
    | lt => rfl
    | lm => rfl
    | party j =>
      have hj : j ≠ i := fun z => h1 (by rw [z])
      show (if j < (Vbexac.setPaper v.s i _).papers.length then some (HO.ins C.P _ (pF j _ ((Vbexac.paper (Vbexac.setPaper v.s i { Vbexac.paper v.s i with next := k }) j).next : Nat) _ _)) else none) = _
      rw [hl, hp, if_neg hj]; rfl
    | elist j =>
      show (if j < (Vbexac.setPaper v.s i _).papers.length then some (HO.lst (refsV (Vbexac.paper (Vbexac.setPaper v.s i { Vbexac.paper v.s i with next := k }) j).entries.length _)) else none) = _
      rw [hl, he]; rfl
    | entry j m =>
      show ((Vbexac.paper (Vbexac.setPaper v.s i { Vbexac.paper v.s i with next := k }) j).entries[m]?).map _ = _
      rw [he]; rfl
    | tin d => rfl
    | laid d => rfl
    | used d => rfl
    | msg k => rfl
theorem writeNew_eq {s : Vbexac.St} {i d f : Nat} {m : Vbexac.Mark} {o : Nat} (hi : i < s.papers.length) : Vbexac.writeNew s i d f m o = Vbexac.write (Vbexac.setPaper s i { Vbexac.paper s i with next := (Vbexac.paper s i).next + 1 }) i { id := Vbexac.nextId s i, depot := d, food := f, mark := m, other := o } := by
  unfold Vbexac.write
  rw [paper_set, if_pos ⟨rfl, hi⟩]
  unfold Vbexac.writeNew Vbexac.setPaper
  simp only [List.set_set]
  rfl
theorem writeNew_get {s : Vbexac.St} {i d f : Nat} {m : Vbexac.Mark} {o : Nat} (hi : i < s.papers.length) : (Vbexac.paper (Vbexac.writeNew s i d f m o) i).entries[(Vbexac.paper s i).entries.length]? = some (newE s i d f m o) := by
  rw [writeNew_add, add_paper hi, if_pos rfl]
  simp
  rfl
theorem writeNew_old {s : Vbexac.St} {i d f : Nat} {m : Vbexac.Mark} {o q j : Nat} {e : Vbexac.Entry} (hi : i < s.papers.length) (h : (Vbexac.paper s q).entries[j]? = some e) : (Vbexac.paper (Vbexac.writeNew s i d f m o) q).entries[j]? = some e := by
  rw [writeNew_add, add_paper hi]
  by_cases z : q = i
  · subst z
    rw [if_pos rfl]
    show ((Vbexac.paper s q).entries ++ [_])[j]? = some e
    rw [List.getElem?_append_left (List.getElem?_eq_some_iff.mp h).1, h]
  · rw [if_neg z]; exact h
theorem mark_get {s : Vbexac.St} {i id q j : Nat} {m : Vbexac.Mark} {e : Vbexac.Entry} (h : (Vbexac.paper s q).entries[j]? = some e) : (Vbexac.paper (Vbexac.mark s i id m) q).entries[j]? = some (up i id m q e) := by
  rw [mark_paper.2, List.getElem?_map, h]; rfl
/-- a message is sent -/
theorem At.send (W : At C v H) {m : Vbexac.Message} {x dx : Addr} (n : ¬ Foot C v x) (hx : H x = some (.ins C.M dx (mF m))) :
    At C (v.put (.msg v.s.air.length) x dx (Vbexac.send v.s m)) (upd H (v.G .lm) (.lst (refsV v.s.air.length (fun j => v.G (.msg j)) ++ [.ref x]))) ∧
      ∀ {H0 : Hp}, H0 x = none → Ext C v H0 v H → Ext C v H0 (v.put (.msg v.s.air.length) x dx (Vbexac.send v.s m)) (upd H (v.G .lm) (.lst (refsV v.s.air.length (fun j => v.G (.msg j)) ++ [.ref x]))) := by
  refine W.two (r0 := .lm) (r1 := .msg v.s.air.length) (o0 := _) n hx (by intro z; cases z) ?_ rfl ?_ ?_ ?_
  · show (v.s.air[v.s.air.length]?).map _ = none
    rw [List.getElem?_eq_none (Nat.le_refl _)]; rfl
  · show some (HO.lst (refsV (v.s.air ++ [m]).length fun j => (v.put (.msg v.s.air.length) x dx (Vbexac.send v.s m)).G (.msg j))) = _
    rw [List.length_append, List.length_singleton]
    exact congrArg (fun z => some (HO.lst z)) (refsV_snoc (n := v.s.air.length) (fun j hj => put_ne (fun z => by injection z with z; omega)) put_at)
  · show ((v.s.air ++ [m])[v.s.air.length]?).map _ = _
    simp only [List.getElem?_concat_length, Option.map_some]
    rw [putD_at]
  · intro q h0 h1
    cases q with
    | lm => exact absurd rfl h0
    | msg k =>
      show ((v.s.air ++ [m])[k]?).map (fun m' => HO.ins C.M ((v.put (.msg v.s.air.length) x dx (Vbexac.send v.s m)).D (.msg k)) (mF m')) = (v.s.air[k]?).map _
      rw [putD_ne h1]
      have hk : k ≠ v.s.air.length := fun z => h1 (by rw [z])
      rcases Nat.lt_or_ge k v.s.air.length with y | y
      · rw [List.getElem?_append_left y]
      · rw [List.getElem?_eq_none (by rw [List.length_append]; simp; omega), List.getElem?_eq_none y]
    | _ => rfl
end
/-! ### promises -/
def sp_Entry___init__ (C : Cs) : Sp := fun vs H Q _ => ∃ (p dx : Addr) (n d r m o : V), vs = [.ref p, n, d, r, m, o] ∧ H p = some (.ins C.E dx []) ∧ Q .non (upd H p (.ins C.E dx [("number", n), ("depot", d), ("rations", r), ("mark", m), ("other", o)]))
def sp_Message___init__ (C : Cs) : Sp := fun vs H Q _ => ∃ (p dx : Addr) (k a b n d r : V), vs = [.ref p, k, a, b, n, d, r] ∧ H p = some (.ins C.M dx []) ∧ Q .non (upd H p (.ins C.M dx [("kind", k), ("sender", a), ("receiver", b), ("number", n), ("depot", d), ("rations", r)]))
def sp_Party_put_entry (C : Cs) : Sp := fun vs H Q _ => ∃ (v : Vw) (i : Nat) (e : Vbexac.Entry), At C v H ∧ vs = [.ref (v.G (.party i)), .int e.id, .int e.depot, .int e.food, .int (Vbexac.markNumber e.mark), .int e.other] ∧ i < v.s.papers.length ∧
  (Vbexac.paper v.s i).entries.length < sizeLine ∧ ∀ x dx H', At C (v.put (.entry i (Vbexac.paper v.s i).entries.length) x dx (Vbexac.write v.s i e)) H' → Ext C v H (v.put (.entry i (Vbexac.paper v.s i).entries.length) x dx (Vbexac.write v.s i e)) H' → Q (.ref ((v.put (.entry i (Vbexac.paper v.s i).entries.length) x dx (Vbexac.write v.s i e)).G (.entry i (Vbexac.paper v.s i).entries.length))) H'
def sp_Party_put_new_entry (C : Cs) : Sp := fun vs H Q _ => ∃ (v : Vw) (i d r : Nat) (m : Vbexac.Mark) (o : Nat), At C v H ∧ vs = [.ref (v.G (.party i)), .int d, .int r, .int (Vbexac.markNumber m), .int o] ∧ i < v.s.papers.length ∧
  (Vbexac.paper v.s i).entries.length < sizeLine ∧ ∀ x dx H', At C (v.put (.entry i (Vbexac.paper v.s i).entries.length) x dx (Vbexac.writeNew v.s i d r m o)) H' → Ext C v H (v.put (.entry i (Vbexac.paper v.s i).entries.length) x dx (Vbexac.writeNew v.s i d r m o)) H' → Q (.ref ((v.put (.entry i (Vbexac.paper v.s i).entries.length) x dx (Vbexac.writeNew v.s i d r m o)).G (.entry i (Vbexac.paper v.s i).entries.length))) H'
section
variable {P : Program} {w : World} {K : PySem.W.Frag} {mg : Str → Option Value} {base : Heap} {C : Cs}
theorem ok_Entry___init__ {f : Addr} {fd : FuncData} (F : Fun K "__init__" "Entry.__init__" s_Entry___init__ f fd) (T : Txt K mg C) : FnOk P w K mg base CX0 1 f fd ["self", "number", "depot", "rations", "mark", "other"] (sp_Entry___init__ C) := by
  refine F.ok sc_Entry___init__ (fun vs H Q E h => ?_) (fun cdv A outer s H vs Q E hr h => ?_)
  · obtain ⟨p, dx, n, d, r, m, o, rfl, hp, k⟩ := h
    rfl
  · obtain ⟨p, dx, n, d, r, m, o, rfl, hp, k⟩ := h
    refine ⟨_, (pss_cons (psf T.cE (T.nE _ (by decide +kernel)) (pv 0) (pv 1))
      (pss_cons (psf T.cE (T.nE _ (by decide +kernel)) (pv 0) (pv 2))
      (pss_cons (psf T.cE (T.nE _ (by decide +kernel)) (pv 0) (pv 3))
      (pss_cons (psf T.cE (T.nE _ (by decide +kernel)) (pv 0) (pv 4))
      (pss_one (psf T.cE (T.nE _ (by decide +kernel)) (pv 0) (pv 5))))))), ?_⟩
    refine ⟨_, rfl, _, rfl, _, _, _, _, rfl, hp, (by show 0 < 1000; decide), rfl, ?_⟩
    refine ⟨_, rfl, _, rfl, _, _, _, _, rfl, upd_same, (by show 1 < 1000; decide), rfl, ?_⟩
    refine ⟨_, rfl, _, rfl, _, _, _, _, rfl, upd_same, (by show 2 < 1000; decide), rfl, ?_⟩
    refine ⟨_, rfl, _, rfl, _, _, _, _, rfl, upd_same, (by show 3 < 1000; decide), rfl, ?_⟩
    refine ⟨_, rfl, _, rfl, _, _, _, _, rfl, upd_same, (by show 4 < 1000; decide), rfl, ?_⟩
    rw [upd_upd, upd_upd, upd_upd, upd_upd]
    exact k
theorem ok_Message___init__ {f : Addr} {fd : FuncData} (F : Fun K "__init__" "Message.__init__" s_Message___init__ f fd) (T : Txt K mg C) : FnOk P w K mg base CX0 1 f fd ["self", "kind", "sender", "receiver", "number", "depot", "rations"] (sp_Message___init__ C) := by
  refine F.ok sc_Message___init__ (fun vs H Q E h => ?_) (fun cdv A outer s H vs Q E hr h => ?_)
  · obtain ⟨p, dx, kk, a, b, n, d, r, rfl, hp, k⟩ := h
    rfl
  · obtain ⟨p, dx, kk, a, b, n, d, r, rfl, hp, k⟩ := h
    refine ⟨_, (pss_cons (psf T.cM (T.nM _ (by decide +kernel)) (pv 0) (pv 1))
      (pss_cons (psf T.cM (T.nM _ (by decide +kernel)) (pv 0) (pv 2))
      (pss_cons (psf T.cM (T.nM _ (by decide +kernel)) (pv 0) (pv 3))
      (pss_cons (psf T.cM (T.nM _ (by decide +kernel)) (pv 0) (pv 4))
      (pss_cons (psf T.cM (T.nM _ (by decide +kernel)) (pv 0) (pv 5))
      (pss_one (psf T.cM (T.nM _ (by decide +kernel)) (pv 0) (pv 6)))))))), ?_⟩
    refine ⟨_, rfl, _, rfl, _, _, _, _, rfl, hp, (by show 0 < 1000; decide), rfl, ?_⟩
    refine ⟨_, rfl, _, rfl, _, _, _, _, rfl, upd_same, (by show 1 < 1000; decide), rfl, ?_⟩
    refine ⟨_, rfl, _, rfl, _, _, _, _, rfl, upd_same, (by show 2 < 1000; decide), rfl, ?_⟩
    refine ⟨_, rfl, _, rfl, _, _, _, _, rfl, upd_same, (by show 3 < 1000; decide), rfl, ?_⟩
    refine ⟨_, rfl, _, rfl, _, _, _, _, rfl, upd_same, (by show 4 < 1000; decide), rfl, ?_⟩
    refine ⟨_, rfl, _, rfl, _, _, _, _, rfl, upd_same, (by show 5 < 1000; decide), rfl, ?_⟩
    rw [upd_upd, upd_upd, upd_upd, upd_upd, upd_upd]
    exact k
theorem ok_Party_put_entry {f : Addr} {fd : FuncData} (F : Fun K "put_entry" "Party.put_entry" s_Party_put_entry f fd) (T : Txt K mg C)
    (F_Entry : Mc P w K mg base "Entry" C.E 1 ["self", "number", "depot", "rations", "mark", "other"] (sp_Entry___init__ C)) : FnOk P w K mg base CX0 3 f fd ["self", "number", "depot", "rations", "mark", "other"] (sp_Party_put_entry C) := by
  refine F.ok sc_Party_put_entry (fun vs H Q E h => ?_) (fun cdv A outer s H vs Q E hr h => ?_)
  · obtain ⟨v, i, e, W, rfl, hi, hz, k⟩ := h
    rfl
  · obtain ⟨v, i, e, W, rfl, hi, hz, k⟩ := h
    refine ⟨_, (pss_cons (ps_set (i := 6) sc_Party_put_entry.nd rfl (Or.inl rfl) (pe_mc F_Entry (hr.mono (by decide)) (pa_cons (pv 1) (pa_cons (pv 2) (pa_cons (pv 3) (pa_cons (pv 4) (pa_cons (pv 5) pa_nil)))))))
      (pss_cons (ps_expr (pe_bm PySem.F.plainAttrs_list PySem.F.slot_list_append PySem.F.type_list_append mt_append (pf T.cP (T.nP _ (by decide +kernel)) (pv 0)) (pa_cons (pv 6) pa_nil)))
      (pss_one (ps_ret (pv 6))))), ?_⟩
    refine ⟨_, rfl, _, rfl, _, rfl, _, rfl, _, rfl, fun x dx nx nd ne => ?_⟩
    refine ⟨x, dx, _, _, _, _, _, rfl, upd_same, rfl, ?_⟩
    rw [upd_upd]
    obtain ⟨W1, X1⟩ := W.made (o1 := .own x) (o2 := .ins C.E dx (eF e)) nx nd
    have n1 : ¬ Foot C v x := W.new nx
    obtain ⟨W2, X2⟩ := W1.write hi n1 upd_same
    refine ⟨_, rfl, _, _, _, _, rfl, W1.party hi, rfl, .inl ⟨rfl, _, SqL.of (W1.elist hi)⟩, _, rfl, _, _, _, rfl, rfl, W1.elist hi, ?_, ?_⟩
    · rw [refsV_len]; exact hz
    · have q := k x dx _ W2 (X2 nx X1)
      rw [put_at] at q
      exact ⟨_, rfl, q⟩
theorem ok_Party_put_new_entry {f : Addr} {fd : FuncData} (F : Fun K "put_new_entry" "Party.put_new_entry" s_Party_put_new_entry f fd) (T : Txt K mg C)
    (F_Party_put_entry : Mt P w K mg base C.P "put_entry" 3 ["self", "number", "depot", "rations", "mark", "other"] (sp_Party_put_entry C)) : FnOk P w K mg base CX0 4 f fd ["self", "depot", "rations", "mark", "other"] (sp_Party_put_new_entry C) := by
  refine F.ok sc_Party_put_new_entry (fun vs H Q E h => ?_) (fun cdv A outer s H vs Q E hr h => ?_)
  · obtain ⟨v, i, d, r, m, o, W, rfl, hi, hz, k⟩ := h
    rfl
  · obtain ⟨v, i, d, r, m, o, W, rfl, hi, hz, k⟩ := h
    refine ⟨_, (pss_cons (psa in_add T.cP (T.nP _ (by decide +kernel)) (pv 0) pe_int)
      (pss_one (ps_ret (pe_mt F_Party_put_entry (hr.mono (by decide)) (pv 0) (pa_cons (pe_op op_add (pe_op op_mul pe_int (pe_op op_add (pf T.cP (T.nP _ (by decide +kernel)) (pv 0)) pe_int)) (pf T.cP (T.nP _ (by decide +kernel)) (pv 0))) (pa_cons (pv 1) (pa_cons (pv 2) (pa_cons (pv 3) (pa_cons (pv 4) pa_nil))))))))), ?_⟩
    obtain ⟨W1, X1⟩ := W.count (k := (Vbexac.paper v.s i).next + 1) hi
    refine ⟨_, rfl, _, _, _, _, rfl, W.party hi, rfl, _, _, _, _, rfl, W.party hi, (by show 5 < 1000; decide), rfl, ?_⟩
    have hl : i < ({ v with s := Vbexac.setPaper v.s i { Vbexac.paper v.s i with next := (Vbexac.paper v.s i).next + 1 } } : Vw).s.papers.length := by rw [show (Vw.mk v.G v.D (Vbexac.setPaper v.s i { Vbexac.paper v.s i with next := (Vbexac.paper v.s i).next + 1 })).s.papers.length = v.s.papers.length from setPaper_len]; exact hi
    have hen : (Vbexac.paper (Vbexac.setPaper v.s i { Vbexac.paper v.s i with next := (Vbexac.paper v.s i).next + 1 }) i) = { Vbexac.paper v.s i with next := (Vbexac.paper v.s i).next + 1 } := by rw [paper_set, if_pos ⟨rfl, hi⟩]
    refine ⟨_, rfl, _, _, _, rfl, upd_same, rfl, _, rfl, _, _, _, _, rfl, upd_same, rfl, _, _, rfl, rfl, _, _, rfl, rfl, .inl ⟨by decide, by decide⟩, _, rfl, _, _, _, _, rfl, upd_same, rfl, _, _, rfl, rfl, _, rfl, _, rfl, _, rfl, _, rfl, ?_⟩
    refine ⟨{ v with s := Vbexac.setPaper v.s i { Vbexac.paper v.s i with next := (Vbexac.paper v.s i).next + 1 } }, i, { id := Vbexac.nextId v.s i, depot := d, food := r, mark := m, other := o }, W1, ?_, hl, ?_, fun x dx H' W2 X2 => ?_⟩
    · have e1 : (100 : Int) * ((i : Int) + 1) + ((Vbexac.paper v.s i).next + 1) = ((Vbexac.nextId v.s i : Nat) : Int) := by unfold Vbexac.nextId Vbexac.idOf; omega
      show ([V.ref (v.G (.party i)), V.int ((100 : Int) * ((i : Int) + 1) + ((Vbexac.paper v.s i).next + 1)), V.int d, V.int r, V.int (Vbexac.markNumber m), V.int o] : List V) = _
      rw [e1]
    · show (Vbexac.paper (Vbexac.setPaper v.s i { Vbexac.paper v.s i with next := (Vbexac.paper v.s i).next + 1 }) i).entries.length < sizeLine
      rw [hen]; exact hz
    · have e2 : Vw.put { v with s := Vbexac.setPaper v.s i { Vbexac.paper v.s i with next := (Vbexac.paper v.s i).next + 1 } } (.entry i (Vbexac.paper (Vbexac.setPaper v.s i { Vbexac.paper v.s i with next := (Vbexac.paper v.s i).next + 1 }) i).entries.length) x dx (Vbexac.write (Vbexac.setPaper v.s i { Vbexac.paper v.s i with next := (Vbexac.paper v.s i).next + 1 }) i { id := Vbexac.nextId v.s i, depot := d, food := r, mark := m, other := o }) = v.put (.entry i (Vbexac.paper v.s i).entries.length) x dx (Vbexac.writeNew v.s i d r m o) := by
        rw [hen, writeNew_eq hi]; rfl
      rw [e2] at W2 X2
      rw [e2]
      show Q (V.ref ((v.put _ x dx (Vbexac.writeNew v.s i d r m o)).G (.entry i (Vbexac.paper (Vbexac.setPaper v.s i { Vbexac.paper v.s i with next := (Vbexac.paper v.s i).next + 1 }) i).entries.length))) H'
      rw [hen]
      exact k x dx H' W2 (X1.trans X2)
end
end RF
end
section
set_option linter.all false
set_option Elab.async false
set_option maxRecDepth 100000
set_option maxHeartbeats 4000000
namespace RF
open PySem PySem.Spec PyProof.Rows L2
section
variable {C : Cs} {v : Vw} {H : Hp}
/-- a mark is changed -/
theorem At.mark (W : At C v H) {i j : Nat} {e : Vbexac.Entry} {m : Vbexac.Mark} (hu : ((Vbexac.paper v.s i).entries.map (·.id)).Nodup) (he : (Vbexac.paper v.s i).entries[j]? = some e) :
    At C { v with s := Vbexac.mark v.s i e.id m } (upd H (v.G (.entry i j)) (.ins C.E (v.D (.entry i j)) (eF { e with mark := m }))) ∧
      Ext C v H { v with s := Vbexac.mark v.s i e.id m } (upd H (v.G (.entry i j)) (.ins C.E (v.D (.entry i j)) (eF { e with mark := m }))) := by
  refine W.one (s' := Vbexac.mark v.s i e.id m) (r := .entry i j) (cont_entry he) ?_ ?_
  · show ((Vbexac.paper (Vbexac.mark v.s i e.id m) i).entries[j]?).map _ = _
    rw [mark_paper.2, List.getElem?_map, he]
    show some (HO.ins C.E _ (eF (up i e.id m i e))) = _
    rw [up_at rfl]
  · intro q h1
    cases q with
    | world => rfl
    | lp => show some (HO.lst (refsV (Vbexac.mark v.s i e.id m).papers.length _)) = _; rw [mark_papers_len]; rfl
    | lt => rfl
    | lm => rfl
    | party k =>
      show (if k < (Vbexac.mark v.s i e.id m).papers.length then some (HO.ins C.P _ (pF k _ ((Vbexac.paper (Vbexac.mark v.s i e.id m) k).next : Nat) _ _)) else none) = _
      rw [mark_papers_len, mark_next]; rfl
    | elist k =>
      show (if k < (Vbexac.mark v.s i e.id m).papers.length then some (HO.lst (refsV (Vbexac.paper (Vbexac.mark v.s i e.id m) k).entries.length _)) else none) = _
      rw [mark_papers_len, mark_paper.2, List.length_map]; rfl
    | entry k l =>
      show ((Vbexac.paper (Vbexac.mark v.s i e.id m) k).entries[l]?).map _ = ((Vbexac.paper v.s k).entries[l]?).map _
      rw [mark_paper.2, List.getElem?_map, Option.map_map]
      cases q : (Vbexac.paper v.s k).entries[l]? with
      | none => rfl
      | some e' =>
        show some (HO.ins C.E _ (eF (up i e.id m k e'))) = some (HO.ins C.E _ (eF e'))
        rw [up_same]
        rintro ⟨rfl, z⟩
        apply h1
        have : j = l := nd_ix (l := (Vbexac.paper v.s k).entries.map (·.id)) hu (x := e.id) (by rw [List.getElem?_map, he]; rfl) (by rw [List.getElem?_map, q, ← z]; rfl)
        rw [this]
    | tin d => rfl
    | laid d => rfl
    | used d => rfl
    | msg k => rfl
theorem setTin_len {s : Vbexac.St} {d : Nat} {x : Vbexac.Tin} : (Vbexac.setTin s d x).tins.length = s.tins.length := by unfold Vbexac.setTin; simp
theorem setTin_at {s : Vbexac.St} {d c : Nat} {x : Vbexac.Tin} (hd : d < s.tins.length) : Vbexac.tin (Vbexac.setTin s d x) c = if c = d then x else Vbexac.tin s c := by
  rw [tin_set]
  by_cases z : c = d
  · rw [if_pos ⟨z, hd⟩, if_pos z]
  · rw [if_neg (fun y => z y.1), if_neg z]
/-- a tin's food -/
theorem At.food (W : At C v H) {d k : Nat} (hd : d < v.s.tins.length) :
    At C { v with s := Vbexac.setTin v.s d { Vbexac.tin v.s d with food := k } } (upd H (v.G (.tin d)) (.ins C.T (v.D (.tin d)) (tF k (v.G (.laid d)) (v.G (.used d))))) ∧
      Ext C v H { v with s := Vbexac.setTin v.s d { Vbexac.tin v.s d with food := k } } (upd H (v.G (.tin d)) (.ins C.T (v.D (.tin d)) (tF k (v.G (.laid d)) (v.G (.used d))))) := by
  refine W.one (s' := Vbexac.setTin v.s d { Vbexac.tin v.s d with food := k }) (r := .tin d) (cont_tin hd) ?_ ?_
  · show (if d < (Vbexac.setTin v.s d _).tins.length then some (HO.ins C.T _ (tF (Vbexac.tin (Vbexac.setTin v.s d { Vbexac.tin v.s d with food := k }) d).food _ _)) else none) = _
    rw [setTin_len, if_pos hd, setTin_at hd, if_pos rfl]
  · intro q h1
    cases q with
    | lt => show some (HO.lst (refsV (Vbexac.setTin v.s d _).tins.length _)) = _; rw [setTin_len]; rfl
    | tin c =>
      have hc : c ≠ d := fun z => h1 (by rw [z])
      show (if c < (Vbexac.setTin v.s d _).tins.length then some (HO.ins C.T _ (tF (Vbexac.tin (Vbexac.setTin v.s d { Vbexac.tin v.s d with food := k }) c).food _ _)) else none) = _
      rw [setTin_len, setTin_at hd, if_neg hc]; rfl
    | laid c =>
      show (if c < (Vbexac.setTin v.s d _).tins.length then some (HO.lst (natsV (Vbexac.tin (Vbexac.setTin v.s d { Vbexac.tin v.s d with food := k }) c).laid)) else none) = (if _ then some (HO.lst (natsV (Vbexac.tin v.s c).laid)) else none)
      rw [setTin_len, setTin_at hd]
      by_cases z : c = d
      · rw [if_pos z, z]
      · rw [if_neg z]
    | used c =>
      show (if c < (Vbexac.setTin v.s d _).tins.length then some (HO.lst (natsV (Vbexac.tin (Vbexac.setTin v.s d { Vbexac.tin v.s d with food := k }) c).used)) else none) = (if _ then some (HO.lst (natsV (Vbexac.tin v.s c).used)) else none)
      rw [setTin_len, setTin_at hd]
      by_cases z : c = d
      · rw [if_pos z, z]
      · rw [if_neg z]
    | _ => rfl
theorem At.laidL (W : At C v H) {d : Nat} {l : List Nat} (hd : d < v.s.tins.length) :
    At C { v with s := Vbexac.setTin v.s d { Vbexac.tin v.s d with laid := l } } (upd H (v.G (.laid d)) (.lst (natsV l))) ∧ Ext C v H { v with s := Vbexac.setTin v.s d { Vbexac.tin v.s d with laid := l } } (upd H (v.G (.laid d)) (.lst (natsV l))) := by
  refine W.one (s' := Vbexac.setTin v.s d { Vbexac.tin v.s d with laid := l }) (r := .laid d) (cont_laid hd) ?_ ?_
  · show (if d < (Vbexac.setTin v.s d _).tins.length then some (HO.lst (natsV (Vbexac.tin (Vbexac.setTin v.s d { Vbexac.tin v.s d with laid := l }) d).laid)) else none) = _
    rw [setTin_len, if_pos hd, setTin_at hd, if_pos rfl]
  · intro q h1
    cases q with
    | lt => show some (HO.lst (refsV (Vbexac.setTin v.s d _).tins.length _)) = _; rw [setTin_len]; rfl
    | tin c =>
      show (if c < (Vbexac.setTin v.s d _).tins.length then some (HO.ins C.T _ (tF (Vbexac.tin (Vbexac.setTin v.s d { Vbexac.tin v.s d with laid := l }) c).food _ _)) else none) = (if _ then some (HO.ins C.T _ (tF (Vbexac.tin v.s c).food _ _)) else none)
      rw [setTin_len, setTin_at hd]
      by_cases z : c = d
      · rw [if_pos z, z]
      · rw [if_neg z]
    | laid c =>
      have hc : c ≠ d := fun z => h1 (by rw [z])
      show (if c < (Vbexac.setTin v.s d _).tins.length then some (HO.lst (natsV (Vbexac.tin (Vbexac.setTin v.s d { Vbexac.tin v.s d with laid := l }) c).laid)) else none) = (if _ then some (HO.lst (natsV (Vbexac.tin v.s c).laid)) else none)
      rw [setTin_len, setTin_at hd, if_neg hc]
    | used c =>
      show (if c < (Vbexac.setTin v.s d _).tins.length then some (HO.lst (natsV (Vbexac.tin (Vbexac.setTin v.s d { Vbexac.tin v.s d with laid := l }) c).used)) else none) = (if _ then some (HO.lst (natsV (Vbexac.tin v.s c).used)) else none)
      rw [setTin_len, setTin_at hd]
      by_cases z : c = d
      · rw [if_pos z, z]
      · rw [if_neg z]
    | _ => rfl
theorem At.usedL (W : At C v H) {d : Nat} {l : List Nat} (hd : d < v.s.tins.length) :
    At C { v with s := Vbexac.setTin v.s d { Vbexac.tin v.s d with used := l } } (upd H (v.G (.used d)) (.lst (natsV l))) ∧ Ext C v H { v with s := Vbexac.setTin v.s d { Vbexac.tin v.s d with used := l } } (upd H (v.G (.used d)) (.lst (natsV l))) := by
  refine W.one (s' := Vbexac.setTin v.s d { Vbexac.tin v.s d with used := l }) (r := .used d) (cont_used hd) ?_ ?_
  · show (if d < (Vbexac.setTin v.s d _).tins.length then some (HO.lst (natsV (Vbexac.tin (Vbexac.setTin v.s d { Vbexac.tin v.s d with used := l }) d).used)) else none) = _
    rw [setTin_len, if_pos hd, setTin_at hd, if_pos rfl]
  · intro q h1
    cases q with
    | lt => show some (HO.lst (refsV (Vbexac.setTin v.s d _).tins.length _)) = _; rw [setTin_len]; rfl
    | tin c =>
      show (if c < (Vbexac.setTin v.s d _).tins.length then some (HO.ins C.T _ (tF (Vbexac.tin (Vbexac.setTin v.s d { Vbexac.tin v.s d with used := l }) c).food _ _)) else none) = (if _ then some (HO.ins C.T _ (tF (Vbexac.tin v.s c).food _ _)) else none)
      rw [setTin_len, setTin_at hd]
      by_cases z : c = d
      · rw [if_pos z, z]
      · rw [if_neg z]
    | used c =>
      have hc : c ≠ d := fun z => h1 (by rw [z])
      show (if c < (Vbexac.setTin v.s d _).tins.length then some (HO.lst (natsV (Vbexac.tin (Vbexac.setTin v.s d { Vbexac.tin v.s d with used := l }) c).used)) else none) = (if _ then some (HO.lst (natsV (Vbexac.tin v.s c).used)) else none)
      rw [setTin_len, setTin_at hd, if_neg hc]
    | laid c =>
      show (if c < (Vbexac.setTin v.s d _).tins.length then some (HO.lst (natsV (Vbexac.tin (Vbexac.setTin v.s d { Vbexac.tin v.s d with used := l }) c).laid)) else none) = (if _ then some (HO.lst (natsV (Vbexac.tin v.s c).laid)) else none)
      rw [setTin_len, setTin_at hd]
      by_cases z : c = d
      · rw [if_pos z, z]
      · rw [if_neg z]
    | _ => rfl
/-- how many rations were ever laid -/
theorem At.total (W : At C v H) (k : Nat) : At C { v with s := { v.s with laid := k } } (upd H (v.G .world) (.ins C.W (v.D .world) (wF (v.G .lp) (v.G .lt) (v.G .lm) (armedI v.s.armed) k))) ∧
    Ext C v H { v with s := { v.s with laid := k } } (upd H (v.G .world) (.ins C.W (v.D .world) (wF (v.G .lp) (v.G .lt) (v.G .lm) (armedI v.s.armed) k))) :=
  W.one (s' := { v.s with laid := k }) (r := .world) rfl rfl fun q hq => by cases q <;> first | rfl | exact absurd rfl hq
/-- a party's place -/
theorem At.place (W : At C v H) {i k : Nat} (hi : i < v.s.papers.length) (hp : v.s.places.length = v.s.papers.length) :
    At C { v with s := { v.s with places := v.s.places.set i k } } (upd H (v.G (.party i)) (.ins C.P (v.D (.party i)) (pF i ((k : Int) - 1) (Vbexac.paper v.s i).next (v.G (.elist i)) (v.s.eaten.getD i 0 : Nat)))) ∧
      Ext C v H { v with s := { v.s with places := v.s.places.set i k } } (upd H (v.G (.party i)) (.ins C.P (v.D (.party i)) (pF i ((k : Int) - 1) (Vbexac.paper v.s i).next (v.G (.elist i)) (v.s.eaten.getD i 0 : Nat)))) := by
  have h1 : Vbexac.place { v.s with places := v.s.places.set i k } i = k := by
    unfold Vbexac.place
    show (v.s.places.set i k).getD i 0 = k
    rw [List.getD_eq_getElem?_getD, List.getElem?_set_self (by omega)]; rfl
  have h2 : ∀ j, j ≠ i → Vbexac.place { v.s with places := v.s.places.set i k } j = Vbexac.place v.s j := fun j hj => by
    unfold Vbexac.place
    show (v.s.places.set i k).getD j 0 = _
    rw [List.getD_eq_getElem?_getD, List.getElem?_set_ne (Ne.symm hj), List.getD_eq_getElem?_getD]
  refine W.one (s' := { v.s with places := v.s.places.set i k }) (r := .party i) (cont_party hi) ?_ ?_
  · show (if i < v.s.papers.length then some (HO.ins C.P _ (pF i ((Vbexac.place { v.s with places := v.s.places.set i k } i : Int) - 1) _ _ _)) else none) = _
    rw [if_pos hi, h1]; rfl
  · intro q hq
    cases q with
    | party j =>
      show (if j < v.s.papers.length then some (HO.ins C.P _ (pF j ((Vbexac.place { v.s with places := v.s.places.set i k } j : Int) - 1) _ _ _)) else none) = _
      rw [h2 j (fun z => hq (by rw [z]))]; rfl
    | _ => rfl
/-- what a party has eaten -/
theorem At.eaten (W : At C v H) {i n : Nat} (hi : i < v.s.papers.length) (hp : v.s.eaten.length = v.s.papers.length) :
    At C { v with s := { v.s with eaten := v.s.eaten.modify i (fun k => k + n) } } (upd H (v.G (.party i)) (.ins C.P (v.D (.party i)) (pF i ((Vbexac.place v.s i : Int) - 1) (Vbexac.paper v.s i).next (v.G (.elist i)) ((v.s.eaten.getD i 0 + n : Nat) : Int)))) ∧
      Ext C v H { v with s := { v.s with eaten := v.s.eaten.modify i (fun k => k + n) } } (upd H (v.G (.party i)) (.ins C.P (v.D (.party i)) (pF i ((Vbexac.place v.s i : Int) - 1) (Vbexac.paper v.s i).next (v.G (.elist i)) ((v.s.eaten.getD i 0 + n : Nat) : Int)))) := by
  have h1 : (v.s.eaten.modify i (fun k => k + n)).getD i 0 = v.s.eaten.getD i 0 + n := by
    rw [List.getD_eq_getElem?_getD, List.getD_eq_getElem?_getD, List.getElem?_modify, List.getElem?_eq_getElem (by omega)]
    simp
  have h2 : ∀ j, j ≠ i → (v.s.eaten.modify i (fun k => k + n)).getD j 0 = v.s.eaten.getD j 0 := fun j hj => by
    rw [List.getD_eq_getElem?_getD, List.getD_eq_getElem?_getD, List.getElem?_modify]
    cases v.s.eaten[j]? with
    | none => rfl
    | some k => simp [Ne.symm hj]
  refine W.one (s' := { v.s with eaten := v.s.eaten.modify i (fun k => k + n) }) (r := .party i) (cont_party hi) ?_ ?_
  · show (if i < v.s.papers.length then some (HO.ins C.P _ (pF i _ _ _ (((v.s.eaten.modify i (fun k => k + n)).getD i 0 : Nat) : Int))) else none) = _
    rw [if_pos hi, h1]; rfl
  · intro q hq
    cases q with
    | party j =>
      show (if j < v.s.papers.length then some (HO.ins C.P _ (pF j _ _ _ (((v.s.eaten.modify i (fun k => k + n)).getD j 0 : Nat) : Int))) else none) = _
      rw [h2 j (fun z => hq (by rw [z]))]; rfl
    | _ => rfl
end
/-! ### what a call must come to -/
def Done (C : Cs) (v : Vw) (H : Hp) (r : Vbexac.St × List Int) (Q : VK) : Prop := ∀ (v' : Vw) (H' : Hp) (p : Addr), v'.s = r.1 → v'.G .world = v.G .world → At C v' H' → Ext C v H v' H' → H p = none → H' p = some (.lst (r.2.map V.int)) → ¬ Foot C v' p → Q (.ref p) H'
section
variable {C : Cs} {v v' : Vw} {H H' : Hp} {Q : VK}
/-- a new list of ints is given back -/
theorem Done.fin {r : Vbexac.St × List Int} (k : Done C v H r Q) (W : At C v' H') (X : Ext C v H v' H') (hw : v'.G .world = v.G .world) (hs : v'.s = r.1) {p : Addr} {vs : List V} (hp : H' p = none) (hv : vs = r.2.map V.int) : Q (.ref p) (upd H' p (.lst vs)) := by
  subst hv
  obtain ⟨W2, X2⟩ := W.laidNew (o := .lst (r.2.map V.int)) hp
  exact k v' _ p hs hw W2 (X.trans X2) (X.live p hp) upd_same (W.new hp)
/-- the same from a later state -/
theorem Done.from {r : Vbexac.St × List Int} (k : Done C v H r Q) (X : Ext C v H v' H') (hw : v'.G .world = v.G .world) : Done C v' H' r Q := fun v2 H2 p h1 h2 h3 h4 h0 h5 h6 => k v2 H2 p h1 (h2.trans hw) h3 (X.trans h4) (X.live p h0) h5 h6
theorem doSteps_cons (s : Vbexac.St) (f : Vbexac.St → Vbexac.St) (r : List (Vbexac.St → Vbexac.St)) (ok : Vbexac.St → List Int) : Vbexac.doSteps s (f :: r) ok = if (cut s).1 = true then ((cut s).2, [1]) else Vbexac.doSteps (f (cut s).2) r ok := by
  unfold Vbexac.doSteps
  rw [steps_cons]
  by_cases h : (cut s).1 = true
  · rw [if_pos h, if_pos h]; rfl
  · rw [if_neg h, if_neg h]
theorem doSteps_nil (s : Vbexac.St) (ok : Vbexac.St → List Int) : Vbexac.doSteps s [] ok = (s, 0 :: ok s) := rfl
theorem ofParty_nat {s : Vbexac.St} {i : Nat} {k : Nat → Vbexac.St × List Int} (h : i < s.papers.length) : Vbexac.ofParty s (i : Int) k = k i := by
  unfold Vbexac.ofParty
  rw [if_neg (by omega), Int.toNat_natCast]
end
/-- no list is near the model's line -/
structure Small (s : Vbexac.St) : Prop where
  en : ∀ p, (Vbexac.paper s p).entries.length ≤ 1000000
  la : ∀ d, (Vbexac.tin s d).laid.length ≤ 1000000
  us : ∀ d, (Vbexac.tin s d).used.length ≤ 1000000
  ai : s.air.length ≤ 400
  pa : s.papers.length ≤ 6
/-- within a clearing -/
structure Small2 (s : Vbexac.St) : Prop where
  en : ∀ p, (Vbexac.paper s p).entries.length ≤ 1500000
  ai : s.air.length ≤ 400
  pa : s.papers.length ≤ 6
theorem Small.two {s : Vbexac.St} (z : Small s) : Small2 s := ⟨fun p => Nat.le_trans (z.en p) (by decide), z.ai, z.pa⟩
theorem line_lt {n : Nat} (h : n ≤ 2000000) : n < sizeLine := Nat.lt_of_le_of_lt h (by decide)
end RF
end
section
set_option linter.all false
set_option Elab.async false
set_option maxRecDepth 100000
set_option maxHeartbeats 4000000
namespace RF
open PySem PySem.Spec PyProof.Rows L2
theorem inM_nats (n : Nat) (l : List Nat) : inV (.int n) (natsV l) = l.contains n := by
  unfold inV natsV
  rw [List.any_map, List.contains_eq_any_beq]
  congr 1
  funext x
  show eqV (.int (x : Int)) (.int (n : Int)) = (n == x)
  unfold eqV
  rw [Bool.eq_iff_iff]
  simp
  omega
theorem natsV_snoc (l : List Nat) (n : Nat) : natsV l ++ [V.int n] = natsV (l ++ [n]) := by unfold natsV; rw [List.map_append]; rfl
theorem natsV_len (l : List Nat) : (natsV l).length = l.length := by unfold natsV; rw [List.length_map]
theorem putIn_eq {s : Vbexac.St} {d n id : Nat} (hd : d < s.tins.length) : { Vbexac.setTin (Vbexac.setTin s d { Vbexac.tin s d with food := (Vbexac.tin s d).food + n }) d { Vbexac.tin (Vbexac.setTin s d { Vbexac.tin s d with food := (Vbexac.tin s d).food + n }) d with laid := (Vbexac.tin s d).laid ++ [id] } with laid := s.laid + n } = putIn s d n id := by
  rw [setTin_at hd, if_pos rfl]
  unfold putIn Vbexac.setTin
  simp only [List.set_set]
theorem eat_eq {s : Vbexac.St} {p d n id : Nat} (hd : d < s.tins.length) : { Vbexac.setTin (Vbexac.setTin s d { Vbexac.tin s d with food := (Vbexac.tin s d).food - n }) d { Vbexac.tin (Vbexac.setTin s d { Vbexac.tin s d with food := (Vbexac.tin s d).food - n }) d with used := (Vbexac.tin s d).used ++ [id] } with eaten := s.eaten.modify p (fun k => k + n) } = eat s p d n id := by
  rw [setTin_at hd, if_pos rfl]
  unfold eat Vbexac.setTin
  simp only [List.set_set]
theorem Inv.place_le {s : Vbexac.St} (I : Inv s) {i : Nat} (h : Vbexac.place s i ≠ 0) : Vbexac.place s i ≤ s.tins.length := by
  unfold Vbexac.place at h ⊢
  rw [List.getD_eq_getElem?_getD] at h ⊢
  cases q : s.places[i]? with
  | none => rw [q] at h; simp at h
  | some v => exact I.st.pc v (List.mem_of_getElem? q)
/-- if world.cuts_off(): return [CUT_OFF] -/
theorem cutStep {C : Cs} {v v0 : Vw} {H H0 : Hp} {n : Nat} {σ : L2.St} {D : Ends} {rest : TS} {f : Vbexac.St → Vbexac.St} {r : List (Vbexac.St → Vbexac.St)} {ok : Vbexac.St → List Int} (W : At C v H) (X : Ext C v0 H0 v H) (hn : σ[n]? = some (some (.ref (v.G .world)))) (hw : v.G .world = v0.G .world)
    (k : Done C v0 H0 (Vbexac.doSteps v.s (f :: r) ok) D.rt) (go : ∀ a H', At C { v with s := { v.s with armed := a } } H' → Ext C v0 H0 { v with s := { v.s with armed := a } } H' → Done C v0 H0 (Vbexac.doSteps (f { v.s with armed := a }) r ok) D.rt → rest D σ H') :
    tSeq (tIfS (tB (tMeth C.W "cuts_off" (sp_World_cuts_off C) [] E0 (tVar n) tNil)) (tRet (tLst (tCons (tC (.int 1)) tNil))) tNext) rest D σ H := by
  refine ⟨_, hn, _, _, _, rfl, W.world, rfl, v, W, rfl, fun H1 W1 X1 => ⟨_, rfl, ?_⟩⟩
  rw [doSteps_cons] at k
  refine ite2 (fun c1 => ?_) (fun c1 => ?_)
  · rw [if_pos c1] at k
    exact ⟨by show 1 ≤ sizeLine; decide, fun p hp => k.fin W1 (X.trans X1) hw rfl hp rfl⟩
  · rw [if_neg c1] at k
    obtain ⟨a, ea⟩ := cut_eq v.s
    rw [ea] at W1 X1 k
    exact go a H1 W1 (X.trans X1) k
def sp_put_into_tin (C : Cs) : Sp := fun vs H Q _ => ∃ (v : Vw) (i j : Nat) (e : Vbexac.Entry), At C v H ∧ vs = [.ref (v.G .world), .ref (v.G (.entry i j))] ∧ (Vbexac.paper v.s i).entries[j]? = some e ∧ e.depot < v.s.tins.length ∧ (Vbexac.tin v.s e.depot).laid.length ≤ 1000000 ∧
  ∀ H', At C { v with s := putIn v.s e.depot e.food e.id } H' → Ext C v H { v with s := putIn v.s e.depot e.food e.id } H' → Q .non H'
def sp_eat_from_tin (C : Cs) : Sp := fun vs H Q _ => ∃ (v : Vw) (i j : Nat) (e : Vbexac.Entry), At C v H ∧ vs = [.ref (v.G .world), .ref (v.G (.party i)), .ref (v.G (.entry i j))] ∧ (Vbexac.paper v.s i).entries[j]? = some e ∧ e.depot < v.s.tins.length ∧ i < v.s.papers.length ∧ v.s.eaten.length = v.s.papers.length ∧ e.food ≤ (Vbexac.tin v.s e.depot).food ∧
  (Vbexac.tin v.s e.depot).used.length ≤ 1000000 ∧ ∀ H', At C { v with s := eat v.s i e.depot e.food e.id } H' → Ext C v H { v with s := eat v.s i e.depot e.food e.id } H' → Q .non H'
def sp_call_come (C : Cs) : Sp := fun vs H Q _ => ∃ (v : Vw) (i : Nat) (d : Int), At C v H ∧ vs = [.ref (v.G .world), .ref (v.G (.party i)), .int d] ∧ i < v.s.papers.length ∧ v.s.places.length = v.s.papers.length ∧ 0 ≤ d ∧ Done C v H (Vbexac.act v.s (.come i d)) Q
def sp_call_lay (C : Cs) : Sp := fun vs H Q _ => ∃ (v : Vw) (i : Nat) (n : Int), At C v H ∧ vs = [.ref (v.G .world), .ref (v.G (.party i)), .int n] ∧ i < v.s.papers.length ∧ Inv v.s ∧ Small v.s ∧ 1 ≤ n ∧ Done C v H (Vbexac.act v.s (.lay i n)) Q
section
variable {P : Program} {w : World} {K : PySem.W.Frag} {mg : Str → Option Value} {base : Heap} {C : Cs}
theorem ok_put_into_tin {f : Addr} {fd : FuncData} (F : Fun K "put_into_tin" "put_into_tin" s_put_into_tin f fd) (T : Txt K mg C) : FnOk P w K mg base CX0 1 f fd ["world", "entry"] (sp_put_into_tin C) := by
  refine F.ok sc_put_into_tin (fun vs H Q E h => ?_) (fun cdv A outer s H vs Q E hr h => ?_)
  · obtain ⟨v, i, j, e, W, rfl, he, hd, hz, k⟩ := h
    rfl
  · obtain ⟨v, i, j, e, W, rfl, he, hd, hz, k⟩ := h
    refine ⟨_, (pss_cons (ps_set (i := 2) sc_put_into_tin.nd rfl (Or.inl rfl) (pe_ix ix_seq (pf T.cW (T.nW _ (by decide +kernel)) (pv 0)) (pf T.cE (T.nE _ (by decide +kernel)) (pv 1)) (fun _ _ => rfl)))
      (pss_cons (psa in_add T.cT (T.nT _ (by decide +kernel)) (pv 2) (pf T.cE (T.nE _ (by decide +kernel)) (pv 1)))
      (pss_cons (ps_expr (pe_bm PySem.F.plainAttrs_list PySem.F.slot_list_append PySem.F.type_list_append mt_append (pf T.cT (T.nT _ (by decide +kernel)) (pv 2)) (pa_cons (pf T.cE (T.nE _ (by decide +kernel)) (pv 1)) pa_nil)))
      (pss_one (psa in_add T.cW (T.nW _ (by decide +kernel)) (pv 0) (pf T.cE (T.nE _ (by decide +kernel)) (pv 1))))))), ?_⟩
    obtain ⟨W1, X1⟩ := W.food (k := (Vbexac.tin v.s e.depot).food + e.food) hd
    obtain ⟨W2, X2⟩ := W1.laidL (d := e.depot) (l := (Vbexac.tin v.s e.depot).laid ++ [e.id]) (by rw [setTin_len]; exact hd)
    obtain ⟨W3, X3⟩ := W2.total (v.s.laid + e.food)
    refine ⟨_, rfl, _, _, _, _, rfl, W.world, rfl, _, rfl, _, _, _, _, rfl, W.entry he, rfl, .inl ⟨_, _, _, _, rfl, rfl, SqL.of W.lt, atI_nat (refsV_get hd), ?_⟩⟩
    refine ⟨_, rfl, _, _, _, _, rfl, W.tin hd, rfl, _, rfl, _, _, _, _, rfl, W.entry he, rfl, _, _, _, _, rfl, W.tin hd, (by show 3 < 1000; decide), rfl, ?_⟩
    have hd1 : e.depot < (Vbexac.setTin v.s e.depot { Vbexac.tin v.s e.depot with food := (Vbexac.tin v.s e.depot).food + e.food }).tins.length := by rw [setTin_len]; exact hd
    have l1 := W1.laid hd1
    rw [show Vbexac.tin (Vw.mk v.G v.D (Vbexac.setTin v.s e.depot { Vbexac.tin v.s e.depot with food := (Vbexac.tin v.s e.depot).food + e.food })).s e.depot = { Vbexac.tin v.s e.depot with food := (Vbexac.tin v.s e.depot).food + e.food } by rw [setTin_at hd, if_pos rfl]] at l1
    refine ⟨_, rfl, _, _, _, _, rfl, W1.tin hd1, rfl, .inl ⟨rfl, _, SqL.of l1⟩, _, rfl, _, _, _, _, rfl, W1.entry he, rfl, _, _, _, rfl, rfl, l1, ?_, ?_⟩
    · rw [natsV_len]; exact line_lt (Nat.le_trans hz (by decide))
    · rw [natsV_snoc]
      refine ⟨_, rfl, _, _, _, _, rfl, W2.world, rfl, _, rfl, _, _, _, _, rfl, W2.entry he, rfl, _, _, _, _, rfl, W2.world, (by show 5 < 1000; decide), rfl, ?_⟩
      have e3 := putIn_eq (n := e.food) (id := e.id) hd
      rw [← e3] at k
      exact k _ W3 ((X1.trans X2).trans X3)
theorem ok_eat_from_tin {f : Addr} {fd : FuncData} (F : Fun K "eat_from_tin" "eat_from_tin" s_eat_from_tin f fd) (T : Txt K mg C) : FnOk P w K mg base CX0 1 f fd ["world", "party", "entry"] (sp_eat_from_tin C) := by
  refine F.ok sc_eat_from_tin (fun vs H Q E h => ?_) (fun cdv A outer s H vs Q E hr h => ?_)
  · obtain ⟨v, i, j, e, W, rfl, he, hd, hi, hel, hf, hz, k⟩ := h
    rfl
  · obtain ⟨v, i, j, e, W, rfl, he, hd, hi, hel, hf, hz, k⟩ := h
    refine ⟨_, (pss_cons (ps_set (i := 3) sc_eat_from_tin.nd rfl (Or.inl rfl) (pe_ix ix_seq (pf T.cW (T.nW _ (by decide +kernel)) (pv 0)) (pf T.cE (T.nE _ (by decide +kernel)) (pv 2)) (fun _ _ => rfl)))
      (pss_cons (psa in_sub T.cT (T.nT _ (by decide +kernel)) (pv 3) (pf T.cE (T.nE _ (by decide +kernel)) (pv 2)))
      (pss_cons (ps_expr (pe_bm PySem.F.plainAttrs_list PySem.F.slot_list_append PySem.F.type_list_append mt_append (pf T.cT (T.nT _ (by decide +kernel)) (pv 3)) (pa_cons (pf T.cE (T.nE _ (by decide +kernel)) (pv 2)) pa_nil)))
      (pss_one (psa in_add T.cP (T.nP _ (by decide +kernel)) (pv 1) (pf T.cE (T.nE _ (by decide +kernel)) (pv 2))))))), ?_⟩
    obtain ⟨W1, X1⟩ := W.food (k := (Vbexac.tin v.s e.depot).food - e.food) hd
    obtain ⟨W2, X2⟩ := W1.usedL (d := e.depot) (l := (Vbexac.tin v.s e.depot).used ++ [e.id]) (by rw [setTin_len]; exact hd)
    obtain ⟨W3, X3⟩ := W2.eaten (i := i) (n := e.food) hi hel
    refine ⟨_, rfl, _, _, _, _, rfl, W.world, rfl, _, rfl, _, _, _, _, rfl, W.entry he, rfl, .inl ⟨_, _, _, _, rfl, rfl, SqL.of W.lt, atI_nat (refsV_get hd), ?_⟩⟩
    refine ⟨_, rfl, _, _, _, _, rfl, W.tin hd, rfl, _, rfl, _, _, _, _, rfl, W.entry he, rfl, _, _, _, tF (((Vbexac.tin v.s e.depot).food - e.food : Nat) : Int) (v.G (.laid e.depot)) (v.G (.used e.depot)), rfl, W.tin hd, (by show 3 < 1000; decide), ?_, ?_⟩
    · show tF (((Vbexac.tin v.s e.depot).food : Int) - (e.food : Int)) (v.G (.laid e.depot)) (v.G (.used e.depot)) = _
      rw [Int.ofNat_sub hf]
    have hd1 : e.depot < (Vbexac.setTin v.s e.depot { Vbexac.tin v.s e.depot with food := (Vbexac.tin v.s e.depot).food - e.food }).tins.length := by rw [setTin_len]; exact hd
    have l1 := W1.used hd1
    rw [show Vbexac.tin (Vw.mk v.G v.D (Vbexac.setTin v.s e.depot { Vbexac.tin v.s e.depot with food := (Vbexac.tin v.s e.depot).food - e.food })).s e.depot = { Vbexac.tin v.s e.depot with food := (Vbexac.tin v.s e.depot).food - e.food } by rw [setTin_at hd, if_pos rfl]] at l1
    refine ⟨_, rfl, _, _, _, _, rfl, W1.tin hd1, rfl, .inl ⟨rfl, _, SqL.of l1⟩, _, rfl, _, _, _, _, rfl, W1.entry he, rfl, _, _, _, rfl, rfl, l1, ?_, ?_⟩
    · rw [natsV_len]; exact line_lt (Nat.le_trans hz (by decide))
    · rw [natsV_snoc]
      refine ⟨_, rfl, _, _, _, _, rfl, W2.party hi, rfl, _, rfl, _, _, _, _, rfl, W2.entry he, rfl, _, _, _, _, rfl, W2.party hi, (by show 5 < 1000; decide), rfl, ?_⟩
      have e3 := eat_eq (p := i) (n := e.food) (id := e.id) hd
      rw [← e3] at k
      exact k _ W3 ((X1.trans X2).trans X3)
theorem ok_call_come {f : Addr} {fd : FuncData} (F : Fun K "call_come" "call_come" s_call_come f fd) (T : Txt K mg C) : FnOk P w K mg base CX0 1 f fd ["world", "party", "d"] (sp_call_come C) := by
  refine F.ok sc_call_come (fun vs H Q E h => ?_) (fun cdv A outer s H vs Q E hr h => ?_)
  · obtain ⟨v, i, d, W, rfl, hi, hpl, h0, k⟩ := h
    rfl
  · obtain ⟨v, i, d, W, rfl, hi, hpl, h0, k⟩ := h
    refine ⟨_, (pss_cons (ps_if (pt_cmpR op_gt (pv 2) (pe_callB call_len_seq (by rfl) T.b_len PySem.boot_len (pa_cons (pf T.cW (T.nW _ (by decide +kernel)) (pv 0)) pa_nil)) (nomark _)) (pss_one (ps_ret (pe_lst (pa_cons pe_neg pa_nil)))) pss_nil)
      (pss_cons (ps_if (pt_cmpR op_eq (pv 2) pe_int (nomark _)) (pss_one (psf T.cP (T.nP _ (by decide +kernel)) (pv 1) (pe_gc T.g_AWAY))) (pss_one (psf T.cP (T.nP _ (by decide +kernel)) (pv 1) (pe_op op_sub (pv 2) pe_int))))
      (pss_one (ps_ret (pe_lst (pa_cons pe_int pa_nil)))))), ?_⟩
    rw [show Vbexac.act v.s (.come i d) = if (v.s.tins.length : Int) < d then (v.s, [-4]) else ({ v.s with places := v.s.places.set i d.toNat }, [0]) by unfold Vbexac.act; exact ofParty_nat hi] at k
    refine ⟨_, rfl, _, rfl, _, _, _, _, rfl, W.world, rfl, _, _, rfl, .inl (SqL.of W.lt), _, _, rfl, rfl, _, rfl, ?_⟩
    rw [refsV_len]
    refine ite2 (fun h => ?_) (fun h => ?_)
    · rw [if_pos (of_decide_eq_true h)] at k
      refine ⟨by show 1 ≤ sizeLine; decide, fun p hp => k.fin W Ext.refl rfl rfl hp rfl⟩
    · rw [if_neg (fun z => h (decide_eq_true z))] at k
      obtain ⟨W1, X1⟩ := W.place (k := d.toNat) hi hpl
      refine ⟨_, rfl, rfl, _, rfl, ?_⟩
      have ed : ((d.toNat : Nat) : Int) = d := Int.toNat_of_nonneg h0
      rw [ed] at W1 X1
      refine ite2 (fun h1 => ?_) (fun h1 => ?_)
      · have hd : d = 0 := by
          have := of_decide_eq_true h1
          simpa using this
        subst hd
        exact ⟨_, rfl, _, _, _, _, rfl, W.party hi, (by show 5 < 1000; decide), rfl, by show 1 ≤ sizeLine; decide, fun p hp => k.fin W1 X1 rfl rfl hp rfl⟩
      · exact ⟨_, rfl, _, _, rfl, rfl, _, rfl, _, _, _, _, rfl, W.party hi, (by show 5 < 1000; decide), rfl, by show 1 ≤ sizeLine; decide, fun p hp => k.fin W1 X1 rfl rfl hp rfl⟩
theorem ok_call_lay {f : Addr} {fd : FuncData} (F : Fun K "call_lay" "call_lay" s_call_lay f fd) (T : Txt K mg C)
    (F_World_cuts_off : Mt P w K mg base C.W "cuts_off" 1 ["self"] (sp_World_cuts_off C))
    (F_Party_put_new_entry : Mt P w K mg base C.P "put_new_entry" 4 ["self", "depot", "rations", "mark", "other"] (sp_Party_put_new_entry C))
    (F_put_into_tin : Fn P w K mg base "put_into_tin" 1 ["world", "entry"] (sp_put_into_tin C)) : FnOk P w K mg base CX0 5 f fd ["world", "party", "n"] (sp_call_lay C) := by
  refine F.ok sc_call_lay (fun vs H Q E h => ?_) (fun cdv A outer s H vs Q E hr h => ?_)
  · obtain ⟨v, i, n, W, rfl, hi, I, Z, hn, k⟩ := h
    rfl
  · obtain ⟨v, i, n, W, rfl, hi, I, Z, hn, k⟩ := h
    refine ⟨_, (pss_cons (ps_if (pt_cmpR op_eq (pf T.cP (T.nP _ (by decide +kernel)) (pv 1)) (pe_gc T.g_AWAY) (nomark _)) (pss_one (ps_ret (pe_lst (pa_cons pe_neg pa_nil)))) pss_nil)
      (pss_cons (ps_if (pt_cmpR op_ge (pf T.cP (T.nP _ (by decide +kernel)) (pv 1)) (pe_gc T.g_MOST_MADE) (nomark _)) (pss_one (ps_ret (pe_lst (pa_cons pe_neg pa_nil)))) pss_nil)
      (pss_cons (ps_if (pt_cmpR op_gt (pe_op op_add (pf T.cW (T.nW _ (by decide +kernel)) (pv 0)) (pv 2)) (pe_gc T.g_MOST_LAID) (nomark _)) (pss_one (ps_ret (pe_lst (pa_cons pe_neg pa_nil)))) pss_nil)
      (pss_cons (ps_if (pt_call (pe_mt0 F_World_cuts_off (hr.mono (by decide)) (pv 0))) (pss_one (ps_ret (pe_lst (pa_cons (pe_gc T.g_CUT_OFF) pa_nil)))) pss_nil)
      (pss_cons (ps_set (i := 3) sc_call_lay.nd rfl (Or.inl rfl) (pe_mt F_Party_put_new_entry (hr.mono (by decide)) (pv 1) (pa_cons (pf T.cP (T.nP _ (by decide +kernel)) (pv 1)) (pa_cons (pv 2) (pa_cons (pe_gc T.g_BEING_LAID) (pa_cons (pf T.cP (T.nP _ (by decide +kernel)) (pv 1)) pa_nil))))))
      (pss_cons (ps_if (pt_call (pe_mt0 F_World_cuts_off (hr.mono (by decide)) (pv 0))) (pss_one (ps_ret (pe_lst (pa_cons (pe_gc T.g_CUT_OFF) pa_nil)))) pss_nil)
      (pss_cons (ps_expr (pe_fn F_put_into_tin (hr.mono (by decide)) (pa_cons (pv 0) (pa_cons (pv 3) pa_nil))))
      (pss_cons (ps_if (pt_call (pe_mt0 F_World_cuts_off (hr.mono (by decide)) (pv 0))) (pss_one (ps_ret (pe_lst (pa_cons (pe_gc T.g_CUT_OFF) pa_nil)))) pss_nil)
      (pss_cons (psf T.cE (T.nE _ (by decide +kernel)) (pv 3) (pe_gc T.g_HELD))
      (pss_one (ps_ret (pe_lst (pa_cons pe_int (pa_cons (pf T.cE (T.nE _ (by decide +kernel)) (pv 3)) pa_nil)))))))))))))), ?_⟩
    have en : n = ((n.toNat : Nat) : Int) := (Int.toNat_of_nonneg (by omega)).symm
    generalize n.toNat = n' at en
    subst en
    rw [show Vbexac.act v.s (.lay i (n' : Int)) = if Vbexac.place v.s i = 0 then (v.s, [-4]) else if Vbexac.room v.s i 1 = false then (v.s, [-5]) else if Vbexac.FOOD < v.s.laid + n' then (v.s, [-6]) else Vbexac.doSteps v.s (Vbexac.laySteps i (Vbexac.place v.s i - 1) n' (Vbexac.nextId v.s i)) fun _ => [(Vbexac.nextId v.s i : Int)] by unfold Vbexac.act; exact ofParty_nat hi] at k
    refine ⟨_, rfl, _, _, _, _, rfl, W.party hi, rfl, rfl, _, rfl, ?_⟩
    refine ite2 (fun h => ?_) (fun h => ?_)
    · rw [if_pos (by have := of_decide_eq_true h; simp at this; omega)] at k
      exact ⟨by show 1 ≤ sizeLine; decide, fun p hp => k.fin W Ext.refl rfl rfl hp rfl⟩
    have hpl : Vbexac.place v.s i ≠ 0 := fun z => h (decide_eq_true (by rw [z]; rfl))
    rw [if_neg hpl] at k
    refine ⟨_, rfl, _, _, _, _, rfl, W.party hi, rfl, _, _, rfl, rfl, _, rfl, ?_⟩
    refine ite2 (fun h1 => ?_) (fun h1 => ?_)
    · have h1 := of_decide_eq_true h1
      rw [if_pos (by unfold Vbexac.room Vbexac.NUMBERS; rw [decide_eq_false]; omega)] at k
      exact ⟨by show 1 ≤ sizeLine; decide, fun p hp => k.fin W Ext.refl rfl rfl hp rfl⟩
    have hm : (Vbexac.paper v.s i).next + 1 ≤ 60 := by
      have : ¬ (60 : Int) ≤ ((Vbexac.paper v.s i).next : Int) := fun z => h1 (decide_eq_true z)
      omega
    rw [if_neg (by unfold Vbexac.room Vbexac.NUMBERS; rw [decide_eq_true hm]; simp)] at k
    refine ⟨_, rfl, _, _, _, _, rfl, W.world, rfl, _, rfl, _, _, rfl, rfl, _, _, rfl, rfl, _, rfl, ?_⟩
    refine ite2 (fun h2 => ?_) (fun h2 => ?_)
    · have h2 := of_decide_eq_true h2
      rw [if_pos (by unfold Vbexac.FOOD; omega)] at k
      exact ⟨by show 1 ≤ sizeLine; decide, fun p hp => k.fin W Ext.refl rfl rfl hp rfl⟩
    have hf : ¬ Vbexac.FOOD < v.s.laid + n' := fun z => h2 (decide_eq_true (by unfold Vbexac.FOOD at z; omega))
    rw [if_neg hf] at k
    unfold Vbexac.laySteps at k
    refine cutStep (n := 0) W Ext.refl rfl rfl k fun a H1 W1 X1 k => ?_
    -- the entry is written
    have hd : Vbexac.place v.s i - 1 < v.s.tins.length := by
      have : Vbexac.place v.s i ≤ v.s.tins.length := I.place_le hpl
      omega
    have I1 : Inv (Vbexac.writeNew { v.s with armed := a } i (Vbexac.place v.s i - 1) n' .laying i) := (I.armed a).lay1 hi hm hd
    have g1 := writeNew_get (s := { v.s with armed := a }) (i := i) (d := Vbexac.place v.s i - 1) (f := n') (m := .laying) (o := i) hi
    have l1 : (newE v.s i (Vbexac.place v.s i - 1) n' .laying i).id ∉ (Vbexac.tin (Vbexac.writeNew { v.s with armed := a } i (Vbexac.place v.s i - 1) n' .laying i) (Vbexac.place v.s i - 1)).laid := fun z => I.st.fresh hm (I.st.lk _ _ z) rfl
    refine ⟨_, rfl, _, _, _, rfl, W1.party hi, rfl, _, rfl, _, _, _, _, rfl, W1.party hi, rfl, _, rfl, _, rfl, _, _, _, _, rfl, W1.party hi, rfl, ?_⟩
    refine ⟨{ v with s := { v.s with armed := a } }, i, Vbexac.place v.s i - 1, n', .laying, i, W1, ?_, hi, line_lt (Nat.le_trans (Z.en i) (by decide)), fun x dx H2 W2 X2 => ?_⟩
    · have e1 : ((Vbexac.place v.s i : Int) - 1) = ((Vbexac.place v.s i - 1 : Nat) : Int) := by omega
      show ([V.ref (v.G (.party i)), V.int ((Vbexac.place v.s i : Int) - 1), V.int n', V.int 1, V.int i] : List V) = _
      rw [e1]; rfl
    -- food into the tin
    refine cutStep (n := 0) W2 (X1.trans X2) rfl rfl k fun b H3 W3 X3 k => ?_
    refine ⟨_, rfl, _, rfl, ?_⟩
    refine ⟨_, i, _, _, W3, rfl, g1, hd, Z.la _, fun H4 W4 X4 => ?_⟩
    have I2 := (I1.armed b).lay2 (e := newE v.s i (Vbexac.place v.s i - 1) n' .laying i) (List.mem_of_getElem? g1) rfl l1
    refine cutStep (n := 0) W4 (X3.trans X4) rfl rfl k fun c H5 W5 X5 k => ?_
    obtain ⟨W6, X6⟩ := W5.mark (m := .held) ((I2.armed c).st.uq i) g1
    refine ⟨_, rfl, _, _, _, _, rfl, W5.entry g1, (by show 5 < 1000; decide), rfl, ?_⟩
    have g6 := mark_get (i := i) (id := Vbexac.nextId v.s i) (m := .held) g1
    refine ⟨_, rfl, _, _, _, _, rfl, W6.entry g6, rfl, (by show 2 ≤ sizeLine; decide), fun p hp => k.fin W6 (X5.trans X6) rfl rfl hp ?_⟩
    rw [up_id]; rfl
end
end RF
end
section
set_option linter.all false
set_option Elab.async false
set_option maxRecDepth 100000
set_option maxHeartbeats 4000000
namespace RF
open PySem PySem.Spec PyProof.Rows L2
section
variable {s : Vbexac.St} {i n : Nat} {m : Vbexac.Mark} {k : Nat → Vbexac.Entry → Vbexac.St × List Int} {e : Vbexac.Entry}
theorem ofEntry_some (hi : i < s.papers.length) (h : Vbexac.entry s i n = some e) (hm : e.mark = m) : Vbexac.ofEntry s (i : Int) (n : Int) m k = k i e := by
  unfold Vbexac.ofEntry
  rw [ofParty_nat hi, Int.toNat_natCast, h]
  show (if Vbexac.is e.mark m = true then _ else _) = _
  rw [if_pos (is_iff.mpr hm)]
theorem ofEntry_no (hi : i < s.papers.length) (h : ∀ e, Vbexac.entry s i n = some e → e.mark ≠ m) : Vbexac.ofEntry s (i : Int) (n : Int) m k = (s, [-4]) := by
  unfold Vbexac.ofEntry
  rw [ofParty_nat hi, Int.toNat_natCast]
  cases q : Vbexac.entry s i n with
  | none => rfl
  | some e =>
    show (if Vbexac.is e.mark m = true then _ else _) = _
    rw [if_neg (fun z => h e q (is_iff.mp z))]
theorem mark_at {j : Nat} (h : (Vbexac.paper s i).entries[j]? = some e) : (Vbexac.paper (Vbexac.mark s i e.id m) i).entries[j]? = some { e with mark := m } := by
  rw [mark_get h, up_at rfl]
theorem nextId_mark {id : Nat} : Vbexac.nextId (Vbexac.mark s i id m) i = Vbexac.nextId s i := by unfold Vbexac.nextId; rw [mark_next]
theorem nextId_new {d f o : Nat} (hi : i < s.papers.length) : Vbexac.nextId (Vbexac.writeNew s i d f m o) i = Vbexac.nextId s i + 1 := by unfold Vbexac.nextId; rw [writeNew_next hi]; unfold Vbexac.idOf; omega
theorem writeNew_elen {d f o q : Nat} : (Vbexac.paper (Vbexac.writeNew s i d f m o) q).entries.length ≤ (Vbexac.paper s q).entries.length + 1 := by
  rcases Nat.lt_or_ge i s.papers.length with hi | hi
  · rw [writeNew_add, add_paper hi]
    by_cases z : q = i
    · subst z; rw [if_pos rfl]; simp
    · rw [if_neg z]; omega
  · unfold Vbexac.writeNew
    rw [paper_set, if_neg (fun z => by omega)]; omega
theorem mark_elen {id q : Nat} : (Vbexac.paper (Vbexac.mark s i id m) q).entries.length = (Vbexac.paper s q).entries.length := by rw [mark_paper.2, List.length_map]
end
def sp_call_split (C : Cs) : Sp := fun vs H Q _ => ∃ (v : Vw) (i id n : Nat), At C v H ∧ vs = [.ref (v.G .world), .ref (v.G (.party i)), .int id, .int n] ∧ i < v.s.papers.length ∧ Inv v.s ∧ Small v.s ∧ 1 ≤ n ∧ Done C v H (Vbexac.act v.s (.split i id n)) Q
def sp_call_join (C : Cs) : Sp := fun vs H Q _ => ∃ (v : Vw) (i a b : Nat), At C v H ∧ vs = [.ref (v.G .world), .ref (v.G (.party i)), .int a, .int b] ∧ i < v.s.papers.length ∧ Inv v.s ∧ Small v.s ∧ Done C v H (Vbexac.act v.s (.join i a b)) Q
def sp_call_use (C : Cs) : Sp := fun vs H Q _ => ∃ (v : Vw) (i id : Nat), At C v H ∧ vs = [.ref (v.G .world), .ref (v.G (.party i)), .int id] ∧ i < v.s.papers.length ∧ Inv v.s ∧ Small v.s ∧ Done C v H (Vbexac.act v.s (.use i id)) Q
theorem one_le : 1 ≤ sizeLine := by decide
theorem two_le : 2 ≤ sizeLine := by decide
theorem three_le : 3 ≤ sizeLine := by decide
section
variable {P : Program} {w : World} {K : PySem.W.Frag} {mg : Str → Option Value} {base : Heap} {C : Cs}
theorem ok_call_use {f : Addr} {fd : FuncData} (F : Fun K "call_use" "call_use" s_call_use f fd) (T : Txt K mg C)
    (F_Party_entry_marked : Mt P w K mg base C.P "entry_marked" 2 ["self", "number", "mark"] (sp_Party_entry_marked C))
    (F_World_cuts_off : Mt P w K mg base C.W "cuts_off" 1 ["self"] (sp_World_cuts_off C))
    (F_eat_from_tin : Fn P w K mg base "eat_from_tin" 1 ["world", "party", "entry"] (sp_eat_from_tin C)) : FnOk P w K mg base CX0 3 f fd ["world", "party", "i"] (sp_call_use C) := by
  refine F.ok sc_call_use (fun vs H Q E h => ?_) (fun cdv A outer s H vs Q E hr h => ?_)
  · obtain ⟨v, i, id, W, rfl, hi, I, Z, k⟩ := h
    rfl
  · obtain ⟨v, i, id, W, rfl, hi, I, Z, k⟩ := h
    refine ⟨_, (pss_cons (ps_set (i := 3) sc_call_use.nd rfl (Or.inl rfl) (pe_mt F_Party_entry_marked (hr.mono (by decide)) (pv 1) (pa_cons (pv 2) (pa_cons (pe_gc T.g_HELD) pa_nil))))
      (pss_cons (ps_if (pt_cmp (pc_isN (pv 3))) (pss_one (ps_ret (pe_lst (pa_cons pe_neg pa_nil)))) pss_nil)
      (pss_cons (ps_if (pt_cmpR op_ne (pf T.cP (T.nP _ (by decide +kernel)) (pv 1)) (pf T.cE (T.nE _ (by decide +kernel)) (pv 3)) (nomark _)) (pss_one (ps_ret (pe_lst (pa_cons pe_neg pa_nil)))) pss_nil)
      (pss_cons (ps_if (pt_call (pe_mt0 F_World_cuts_off (hr.mono (by decide)) (pv 0))) (pss_one (ps_ret (pe_lst (pa_cons (pe_gc T.g_CUT_OFF) pa_nil)))) pss_nil)
      (pss_cons (psf T.cE (T.nE _ (by decide +kernel)) (pv 3) (pe_gc T.g_BEING_USED))
      (pss_cons (ps_if (pt_call (pe_mt0 F_World_cuts_off (hr.mono (by decide)) (pv 0))) (pss_one (ps_ret (pe_lst (pa_cons (pe_gc T.g_CUT_OFF) pa_nil)))) pss_nil)
      (pss_cons (ps_expr (pe_fn F_eat_from_tin (hr.mono (by decide)) (pa_cons (pv 0) (pa_cons (pv 1) (pa_cons (pv 3) pa_nil)))))
      (pss_cons (ps_if (pt_call (pe_mt0 F_World_cuts_off (hr.mono (by decide)) (pv 0))) (pss_one (ps_ret (pe_lst (pa_cons (pe_gc T.g_CUT_OFF) pa_nil)))) pss_nil)
      (pss_cons (psf T.cE (T.nE _ (by decide +kernel)) (pv 3) (pe_gc T.g_USED))
      (pss_one (ps_ret (pe_lst (pa_cons pe_int (pa_cons (pf T.cE (T.nE _ (by decide +kernel)) (pv 3)) pa_nil)))))))))))))), ?_⟩
    refine ⟨_, rfl, _, _, _, rfl, W.party hi, rfl, _, rfl, v, i, id, .held, W, rfl, hi, fun j e he hf hm => ?_, fun hno => ?_⟩
    · rw [show Vbexac.act v.s (.use i id) = if Vbexac.place v.s i ≠ e.depot + 1 then (v.s, [-5]) else Vbexac.doSteps v.s (Vbexac.useSteps i e) fun _ => [(e.food : Int)] by unfold Vbexac.act; exact ofEntry_some hi hf hm] at k
      refine ⟨_, rfl, _, rfl, ?_⟩
      refine iteF ?_
      refine ⟨_, rfl, _, _, _, _, rfl, W.party hi, rfl, _, rfl, _, _, _, _, rfl, W.entry he, rfl, rfl, _, rfl, ?_⟩
      refine ite2 (fun h => ?_) (fun h => ?_)
      · rw [if_pos (by
          intro z
          rw [z] at h
          simp at h <;> omega)] at k
        exact ⟨one_le, fun p hp => k.fin W Ext.refl rfl rfl hp rfl⟩
      rw [if_neg (fun z => h (by simp; omega))] at k
      unfold Vbexac.useSteps at k
      have hmem := List.mem_of_getElem? he
      refine cutStep (n := 0) W Ext.refl rfl rfl k fun a H1 W1 X1 k => ?_
      have I1 : Inv (Vbexac.mark { v.s with armed := a } i e.id .using) := (I.armed a).use1 hmem hm
      obtain ⟨W2, X2⟩ := W1.mark (m := .using) ((I.armed a).st.uq i) he
      have g2 := mark_at (s := { v.s with armed := a }) (m := .using) he
      refine ⟨_, rfl, _, _, _, _, rfl, W1.entry he, (by show 5 < 1000; decide), rfl, ?_⟩
      refine cutStep (n := 0) W2 (X1.trans X2) rfl rfl k fun b H3 W3 X3 k => ?_
      have m1 : { e with mark := .using } ∈ (Vbexac.paper (Vbexac.mark { v.s with armed := a } i e.id .using) i).entries := List.mem_of_getElem? g2
      have u1 : e.id ∉ (Vbexac.tin (Vbexac.mark { v.s with armed := a } i e.id .using) e.depot).used := I.st.unused hmem (.inl hm) _
      refine ⟨_, rfl, _, rfl, _, rfl, _, i, j, { e with mark := .using }, W3, rfl, g2, I.st.dp i e hmem, by rw [mark_papers_len]; exact hi, by rw [mark_papers_len]; exact I.st.el, ?_, Z.us _, fun H4 W4 X4 => ?_⟩
      · show e.food ≤ (Vbexac.tin v.s e.depot).food
        exact I.enough hmem (alive_iff.mpr (.inl hm))
      have I2 := (I1.armed b).use2 (e := { e with mark := .using }) m1 rfl u1
      refine cutStep (n := 0) W4 (X3.trans X4) rfl rfl k fun c H5 W5 X5 k => ?_
      obtain ⟨W6, X6⟩ := W5.mark (m := .used) (e := { e with mark := .using }) ((I2.armed c).st.uq i) g2
      refine ⟨_, rfl, _, _, _, _, rfl, W5.entry g2, (by show 5 < 1000; decide), rfl, ?_⟩
      have g6 := mark_at (s := { eat { Vbexac.mark { v.s with armed := a } i e.id .using with armed := b } i e.depot e.food e.id with armed := c }) (e := { e with mark := .using }) (m := .used) g2
      exact ⟨_, rfl, _, _, _, _, rfl, W6.entry g6, rfl, two_le, fun p hp => k.fin W6 (X5.trans X6) rfl rfl hp rfl⟩
    · rw [show Vbexac.act v.s (.use i id) = (v.s, [-4]) by unfold Vbexac.act; exact ofEntry_no hi hno] at k
      refine ⟨_, rfl, _, rfl, ?_⟩
      refine iteT ?_
      exact ⟨one_le, fun p hp => k.fin W Ext.refl rfl rfl hp rfl⟩
theorem ok_call_split {f : Addr} {fd : FuncData} (F : Fun K "call_split" "call_split" s_call_split f fd) (T : Txt K mg C)
    (F_Party_entry_marked : Mt P w K mg base C.P "entry_marked" 2 ["self", "number", "mark"] (sp_Party_entry_marked C))
    (F_World_cuts_off : Mt P w K mg base C.W "cuts_off" 1 ["self"] (sp_World_cuts_off C))
    (F_Party_put_new_entry : Mt P w K mg base C.P "put_new_entry" 4 ["self", "depot", "rations", "mark", "other"] (sp_Party_put_new_entry C)) : FnOk P w K mg base CX0 5 f fd ["world", "party", "i", "n"] (sp_call_split C) := by
  refine F.ok sc_call_split (fun vs H Q E h => ?_) (fun cdv A outer s H vs Q E hr h => ?_)
  · obtain ⟨v, i, id, n, W, rfl, hi, I, Z, hn, k⟩ := h
    rfl
  · obtain ⟨v, i, id, n, W, rfl, hi, I, Z, hn, k⟩ := h
    refine ⟨_, (pss_cons (ps_set (i := 4) sc_call_split.nd rfl (Or.inl rfl) (pe_mt F_Party_entry_marked (hr.mono (by decide)) (pv 1) (pa_cons (pv 2) (pa_cons (pe_gc T.g_HELD) pa_nil))))
      (pss_cons (ps_if (pt_cmp (pc_isN (pv 4))) (pss_one (ps_ret (pe_lst (pa_cons pe_neg pa_nil)))) pss_nil)
      (pss_cons (ps_if (pt_cmpR op_ge (pv 3) (pf T.cE (T.nE _ (by decide +kernel)) (pv 4)) (nomark _)) (pss_one (ps_ret (pe_lst (pa_cons pe_neg pa_nil)))) pss_nil)
      (pss_cons (ps_if (pt_cmpR op_gt (pe_op op_add (pf T.cP (T.nP _ (by decide +kernel)) (pv 1)) pe_int) (pe_gc T.g_MOST_MADE) (nomark _)) (pss_one (ps_ret (pe_lst (pa_cons pe_neg pa_nil)))) pss_nil)
      (pss_cons (ps_if (pt_call (pe_mt0 F_World_cuts_off (hr.mono (by decide)) (pv 0))) (pss_one (ps_ret (pe_lst (pa_cons (pe_gc T.g_CUT_OFF) pa_nil)))) pss_nil)
      (pss_cons (psf T.cE (T.nE _ (by decide +kernel)) (pv 4) (pe_gc T.g_OVER))
      (pss_cons (ps_set (i := 5) sc_call_split.nd rfl (Or.inl rfl) (pe_mt F_Party_put_new_entry (hr.mono (by decide)) (pv 1) (pa_cons (pf T.cE (T.nE _ (by decide +kernel)) (pv 4)) (pa_cons (pv 3) (pa_cons (pe_gc T.g_HELD) (pa_cons (pf T.cP (T.nP _ (by decide +kernel)) (pv 1)) pa_nil))))))
      (pss_cons (ps_set (i := 6) sc_call_split.nd rfl (Or.inl rfl) (pe_mt F_Party_put_new_entry (hr.mono (by decide)) (pv 1) (pa_cons (pf T.cE (T.nE _ (by decide +kernel)) (pv 4)) (pa_cons (pe_op op_sub (pf T.cE (T.nE _ (by decide +kernel)) (pv 4)) (pv 3)) (pa_cons (pe_gc T.g_HELD) (pa_cons (pf T.cP (T.nP _ (by decide +kernel)) (pv 1)) pa_nil))))))
      (pss_one (ps_ret (pe_lst (pa_cons pe_int (pa_cons (pf T.cE (T.nE _ (by decide +kernel)) (pv 5)) (pa_cons (pf T.cE (T.nE _ (by decide +kernel)) (pv 6)) pa_nil)))))))))))))), ?_⟩
    refine ⟨_, rfl, _, _, _, rfl, W.party hi, rfl, _, rfl, v, i, id, .held, W, rfl, hi, fun j e he hf hm => ?_, fun hno => ?_⟩
    · rw [show Vbexac.act v.s (.split i id n) = if (e.food : Int) ≤ n then (v.s, [-5]) else if Vbexac.room v.s i 2 = false then (v.s, [-6]) else Vbexac.doSteps v.s [fun s => Vbexac.writeNew (Vbexac.writeNew (Vbexac.mark s i e.id .dead) i e.depot n .held i) i e.depot (e.food - n) .held i] fun _ => [(Vbexac.nextId v.s i : Int), (Vbexac.nextId v.s i + 1 : Nat)] by unfold Vbexac.act; exact ofEntry_some hi hf hm] at k
      refine ⟨_, rfl, _, rfl, ?_⟩
      refine iteF ?_
      refine ⟨_, rfl, _, rfl, _, _, _, _, rfl, W.entry he, rfl, _, _, rfl, rfl, _, rfl, ?_⟩
      refine ite2 (fun h => ?_) (fun h => ?_)
      · rw [if_pos (of_decide_eq_true h)] at k
        exact ⟨one_le, fun p hp => k.fin W Ext.refl rfl rfl hp rfl⟩
      have hlt : ¬ (e.food : Int) ≤ n := fun z => h (decide_eq_true z)
      rw [if_neg hlt] at k
      refine ⟨_, rfl, _, _, _, _, rfl, W.party hi, rfl, _, _, rfl, rfl, _, _, rfl, rfl, _, rfl, ?_⟩
      refine ite2 (fun h1 => ?_) (fun h1 => ?_)
      · have h1 := of_decide_eq_true h1
        rw [if_pos (by unfold Vbexac.room Vbexac.NUMBERS; rw [decide_eq_false]; omega)] at k
        exact ⟨one_le, fun p hp => k.fin W Ext.refl rfl rfl hp rfl⟩
      have hrm : (Vbexac.paper v.s i).next + 2 ≤ 60 := by
        have : ¬ (60 : Int) < ((Vbexac.paper v.s i).next : Int) + 2 := fun z => h1 (decide_eq_true z)
        omega
      rw [if_neg (by unfold Vbexac.room Vbexac.NUMBERS; rw [decide_eq_true hrm]; simp)] at k
      have hmem := List.mem_of_getElem? he
      refine cutStep (n := 0) W Ext.refl rfl rfl k fun a H1 W1 X1 k => ?_
      obtain ⟨W2, X2⟩ := W1.mark (m := .dead) ((I.armed a).st.uq i) he
      have g2 := mark_at (s := { v.s with armed := a }) (m := .dead) he
      have hi2 : i < (Vbexac.mark { v.s with armed := a } i e.id .dead).papers.length := by rw [mark_papers_len]; exact hi
      refine ⟨_, rfl, _, _, _, _, rfl, W1.entry he, (by show 5 < 1000; decide), rfl, ?_⟩
      refine ⟨_, rfl, _, _, _, rfl, W2.party hi2, rfl, _, rfl, _, _, _, _, rfl, W2.entry g2, rfl, _, rfl, _, rfl, _, _, _, _, rfl, W2.party hi2, rfl, ?_⟩
      refine ⟨_, i, e.depot, n, .held, i, W2, rfl, hi2, ?_, fun x dx H3 W3 X3 => ?_⟩
      · show (Vbexac.paper (Vbexac.mark { v.s with armed := a } i e.id .dead) i).entries.length < sizeLine
        rw [mark_elen]; exact line_lt (Nat.le_trans (Z.en i) (by decide))
      have g3 := writeNew_old (d := e.depot) (f := n) (m := .held) (o := i) hi2 g2
      have n3 := writeNew_get (s := Vbexac.mark { v.s with armed := a } i e.id .dead) (d := e.depot) (f := n) (m := .held) (o := i) hi2
      have hi3 : i < (Vbexac.writeNew (Vbexac.mark { v.s with armed := a } i e.id .dead) i e.depot n .held i).papers.length := by rw [writeNew_len]; exact hi2
      have ef : ((e.food : Int) - (n : Int)) = ((e.food - n : Nat) : Int) := by omega
      have oe : H3 (v.G (.entry i j)) = some (.ins C.E (v.D (.entry i j)) (eF { e with mark := .dead })) := by
        have q := W3.entry g3
        have lt : j < (Vbexac.paper (Vbexac.mark { v.s with armed := a } i e.id .dead) i).entries.length := (List.getElem?_eq_some_iff.mp g2).1
        rw [put_ne (fun z => by injection z with _ z; exact absurd z (Nat.ne_of_lt lt)), putD_ne (fun z => by injection z with _ z; exact absurd z (Nat.ne_of_lt lt))] at q
        exact q
      refine ⟨_, rfl, _, _, _, rfl, W3.party hi3, rfl, _, rfl, _, _, _, _, rfl, oe, rfl, _, rfl, _, _, _, _, rfl, oe, rfl, _, rfl, _, _, rfl, rfl, _, rfl, _, _, _, _, rfl, W3.party hi3, rfl, ?_⟩
      refine ⟨_, i, e.depot, e.food - n, .held, i, W3, ?_, hi3, ?_, fun x' dx' H4 W4 X4 => ?_⟩
      · show ([V.ref (v.G (.party i)), V.int e.depot, V.int ((e.food : Int) - (n : Int)), V.int 0, V.int i] : List V) = _
        rw [ef]; rfl
      · exact line_lt (Nat.le_trans writeNew_elen (by rw [mark_elen]; have := Z.en i; show (Vbexac.paper v.s i).entries.length + 1 ≤ _; omega))
      have n4 := writeNew_get (s := Vbexac.writeNew (Vbexac.mark { v.s with armed := a } i e.id .dead) i e.depot n .held i) (d := e.depot) (f := e.food - n) (m := .held) (o := i) hi3
      have o4 := writeNew_old (d := e.depot) (f := e.food - n) (m := .held) (o := i) hi3 n3
      have q4 := W4.entry o4
      have ne4 : (Vbexac.paper (Vbexac.mark { v.s with armed := a } i e.id .dead) i).entries.length ≠ (Vbexac.paper (Vbexac.writeNew (Vbexac.mark { v.s with armed := a } i e.id .dead) i e.depot n .held i) i).entries.length := Nat.ne_of_lt (List.getElem?_eq_some_iff.mp n3).1
      rw [put_ne (fun z => by injection z with _ z; exact absurd z ne4), putD_ne (fun z => by injection z with _ z; exact absurd z ne4)] at q4
      refine ⟨_, rfl, _, _, _, _, rfl, q4, rfl, _, rfl, _, _, _, _, rfl, W4.entry n4, rfl, three_le, fun p hp => k.fin W4 (((X1.trans X2).trans X3).trans X4) rfl rfl hp ?_⟩
      show ([V.int 0, V.int (Vbexac.nextId (Vbexac.mark { v.s with armed := a } i e.id .dead) i : Nat), V.int (Vbexac.nextId (Vbexac.writeNew (Vbexac.mark { v.s with armed := a } i e.id .dead) i e.depot n .held i) i : Nat)] : List V) = _
      rw [nextId_new hi2, nextId_mark]; rfl
    · rw [show Vbexac.act v.s (.split i id n) = (v.s, [-4]) by unfold Vbexac.act; exact ofEntry_no hi hno] at k
      refine ⟨_, rfl, _, rfl, ?_⟩
      refine iteT ?_
      exact ⟨one_le, fun p hp => k.fin W Ext.refl rfl rfl hp rfl⟩
end
end RF
end
section
set_option linter.all false
set_option Elab.async false
set_option maxRecDepth 100000
set_option maxHeartbeats 4000000
namespace RF
open PySem PySem.Spec PyProof.Rows L2
def about (k i : Nat) (e : Vbexac.Entry) : Vbexac.Message := { kind := k, sender := i, to := e.other, id := e.id, depot := e.depot, food := e.food }
def sp_air_is_full (C : Cs) : Sp := fun vs H Q _ => ∃ v : Vw, At C v H ∧ vs = [.ref (v.G .world)] ∧ Q (.bl (Vbexac.full v.s 1)) H
def sp_World_put_message (C : Cs) : Sp := fun vs H Q _ => ∃ (v : Vw) (x dx : Addr) (m : Vbexac.Message), At C v H ∧ vs = [.ref (v.G .world), .ref x] ∧ ¬ Foot C v x ∧ H x = some (.ins C.M dx (mF m)) ∧ v.s.air.length < 2000000 ∧
  ∀ H', At C (v.put (.msg v.s.air.length) x dx (Vbexac.send v.s m)) H' → (∀ H0 : Hp, H0 x = none → Ext C v H0 v H → Ext C v H0 (v.put (.msg v.s.air.length) x dx (Vbexac.send v.s m)) H') → Q (.int v.s.air.length) H'
def sp_send_about (C : Cs) : Sp := fun vs H Q _ => ∃ (v : Vw) (i j k : Nat) (e : Vbexac.Entry), At C v H ∧ vs = [.ref (v.G .world), .ref (v.G (.party i)), .ref (v.G (.entry i j)), .int k] ∧ i < v.s.papers.length ∧ (Vbexac.paper v.s i).entries[j]? = some e ∧ v.s.air.length < 2000000 ∧
  ∀ x dx H', At C (v.put (.msg v.s.air.length) x dx (Vbexac.send v.s (about k i e))) H' → Ext C v H (v.put (.msg v.s.air.length) x dx (Vbexac.send v.s (about k i e))) H' → Q (.int v.s.air.length) H'
def sp_call_give (C : Cs) : Sp := fun vs H Q _ => ∃ (v : Vw) (i id q : Nat), At C v H ∧ vs = [.ref (v.G .world), .ref (v.G (.party i)), .int id, .int q] ∧ i < v.s.papers.length ∧ Inv v.s ∧ Small v.s ∧ Done C v H (Vbexac.act v.s (.give i id q)) Q
def sp_send_once_more (C : Cs) : Sp := fun vs H Q _ => ∃ (v : Vw) (i id k : Nat), At C v H ∧ vs = [.ref (v.G .world), .ref (v.G (.party i)), .int id, .int k] ∧ i < v.s.papers.length ∧ Inv v.s ∧ Small v.s ∧ (k = 0 ∨ k = 2) ∧ Done C v H (Vbexac.act v.s (if k = 0 then .again i id else .ask i id)) Q
def sp_call_again (C : Cs) : Sp := fun vs H Q _ => ∃ (v : Vw) (i id : Nat), At C v H ∧ vs = [.ref (v.G .world), .ref (v.G (.party i)), .int id] ∧ i < v.s.papers.length ∧ Inv v.s ∧ Small v.s ∧ Done C v H (Vbexac.act v.s (.again i id)) Q
def sp_call_ask (C : Cs) : Sp := fun vs H Q _ => ∃ (v : Vw) (i id : Nat), At C v H ∧ vs = [.ref (v.G .world), .ref (v.G (.party i)), .int id] ∧ i < v.s.papers.length ∧ Inv v.s ∧ Small v.s ∧ Done C v H (Vbexac.act v.s (.ask i id)) Q
theorem full_lt {s : Vbexac.St} (h : ¬ Vbexac.full s 1 = true) : s.air.length < 400 := by
  unfold Vbexac.full Vbexac.MESSAGES at h
  simp at h
  omega
section
variable {P : Program} {w : World} {K : PySem.W.Frag} {mg : Str → Option Value} {base : Heap} {C : Cs}
theorem ok_call_join {f : Addr} {fd : FuncData} (F : Fun K "call_join" "call_join" s_call_join f fd) (T : Txt K mg C)
    (F_Party_entry_marked : Mt P w K mg base C.P "entry_marked" 2 ["self", "number", "mark"] (sp_Party_entry_marked C))
    (F_World_cuts_off : Mt P w K mg base C.W "cuts_off" 1 ["self"] (sp_World_cuts_off C))
    (F_Party_put_new_entry : Mt P w K mg base C.P "put_new_entry" 4 ["self", "depot", "rations", "mark", "other"] (sp_Party_put_new_entry C)) : FnOk P w K mg base CX0 5 f fd ["world", "party", "i", "j"] (sp_call_join C) := by
  refine F.ok sc_call_join (fun vs H Q E h => ?_) (fun cdv A outer s H vs Q E hr h => ?_)
  · obtain ⟨v, i, a, b, W, rfl, hi, I, Z, k⟩ := h
    rfl
  · obtain ⟨v, i, a, b, W, rfl, hi, I, Z, k⟩ := h
    refine ⟨_, (pss_cons (ps_set (i := 4) sc_call_join.nd rfl (Or.inl rfl) (pe_mt F_Party_entry_marked (hr.mono (by decide)) (pv 1) (pa_cons (pv 2) (pa_cons (pe_gc T.g_HELD) pa_nil))))
      (pss_cons (ps_set (i := 5) sc_call_join.nd rfl (Or.inl rfl) (pe_mt F_Party_entry_marked (hr.mono (by decide)) (pv 1) (pa_cons (pv 3) (pa_cons (pe_gc T.g_HELD) pa_nil))))
      (pss_cons (ps_if (pw_or (pt_cmp (pc_isN (pv 4))) (pw_or1 (pt_cmp (pc_isN (pv 5))))).pt (pss_one (ps_ret (pe_lst (pa_cons pe_neg pa_nil)))) pss_nil)
      (pss_cons (ps_if (pw_or (pt_cmpR op_eq (pv 2) (pv 3) (nomark _)) (pw_or1 (pt_cmpR op_ne (pf T.cE (T.nE _ (by decide +kernel)) (pv 4)) (pf T.cE (T.nE _ (by decide +kernel)) (pv 5)) (nomark _)))).pt (pss_one (ps_ret (pe_lst (pa_cons pe_neg pa_nil)))) pss_nil)
      (pss_cons (ps_if (pt_cmpR op_ge (pf T.cP (T.nP _ (by decide +kernel)) (pv 1)) (pe_gc T.g_MOST_MADE) (nomark _)) (pss_one (ps_ret (pe_lst (pa_cons pe_neg pa_nil)))) pss_nil)
      (pss_cons (ps_if (pt_call (pe_mt0 F_World_cuts_off (hr.mono (by decide)) (pv 0))) (pss_one (ps_ret (pe_lst (pa_cons (pe_gc T.g_CUT_OFF) pa_nil)))) pss_nil)
      (pss_cons (psf T.cE (T.nE _ (by decide +kernel)) (pv 4) (pe_gc T.g_OVER))
      (pss_cons (psf T.cE (T.nE _ (by decide +kernel)) (pv 5) (pe_gc T.g_OVER))
      (pss_cons (ps_set (i := 6) sc_call_join.nd rfl (Or.inl rfl) (pe_mt F_Party_put_new_entry (hr.mono (by decide)) (pv 1) (pa_cons (pf T.cE (T.nE _ (by decide +kernel)) (pv 4)) (pa_cons (pe_op op_add (pf T.cE (T.nE _ (by decide +kernel)) (pv 4)) (pf T.cE (T.nE _ (by decide +kernel)) (pv 5))) (pa_cons (pe_gc T.g_HELD) (pa_cons (pf T.cP (T.nP _ (by decide +kernel)) (pv 1)) pa_nil))))))
      (pss_one (ps_ret (pe_lst (pa_cons pe_int (pa_cons (pf T.cE (T.nE _ (by decide +kernel)) (pv 6)) pa_nil)))))))))))))), ?_⟩
    have refuse : Vbexac.act v.s (.join i a b) = (v.s, [-4]) → ∀ {p : Addr}, H p = none → Q (.ref p) (upd H p (.lst [.int (-4)])) := fun z p hp => by
      rw [z] at k
      exact k.fin W Ext.refl rfl rfl hp rfl
    refine ⟨_, rfl, _, _, _, rfl, W.party hi, rfl, _, rfl, v, i, a, .held, W, rfl, hi, fun j e he hf hm => ?_, fun hno => ?_⟩
    · refine ⟨_, rfl, _, _, _, rfl, W.party hi, rfl, _, rfl, v, i, b, .held, W, rfl, hi, fun j' f he' hf' hm' => ?_, fun hno' => ?_⟩
      · rw [show Vbexac.act v.s (.join i a b) = if e.id = f.id ∨ e.depot ≠ f.depot then (v.s, [-5]) else if Vbexac.room v.s i 1 = false then (v.s, [-6]) else Vbexac.doSteps v.s [fun s => Vbexac.writeNew (Vbexac.mark (Vbexac.mark s i e.id .dead) i f.id .dead) i e.depot (e.food + f.food) .held i] fun _ => [(Vbexac.nextId v.s i : Int)] by
          unfold Vbexac.act
          exact (ofEntry_some hi hf hm).trans (ofEntry_some hi hf' hm')] at k
        obtain ⟨hmem, hid⟩ := entry_mem hf
        obtain ⟨hmem', hid'⟩ := entry_mem hf'
        refine ⟨_, rfl, _, rfl, ?_⟩
        refine iteF ⟨_, rfl, _, rfl, ?_⟩
        refine iteF ?_
        refine ⟨_, rfl, _, rfl, rfl, _, rfl, ?_⟩
        refine ite2 (fun h => ?_) (fun h => ?_)
        · refine iteT ?_
          have : a = b := by
            have := of_decide_eq_true h
            simp at this
            omega
          rw [if_pos (.inl (by rw [hid, hid', this]))] at k
          exact ⟨one_le, fun p hp => k.fin W Ext.refl rfl rfl hp rfl⟩
        have hab : e.id ≠ f.id := fun z => h (decide_eq_true (by rw [← hid, ← hid', z]))
        refine ⟨_, rfl, _, _, _, _, rfl, W.entry he, rfl, _, rfl, _, _, _, _, rfl, W.entry he', rfl, rfl, _, rfl, ?_⟩
        refine ite2 (fun h => ?_) (fun h => ?_)
        · rw [if_pos (.inr (by
            intro z
            rw [z] at h
            simp at h))] at k
          exact ⟨one_le, fun p hp => k.fin W Ext.refl rfl rfl hp rfl⟩
        have hdd : e.depot = f.depot := by
          simp at h
          omega
        rw [if_neg (fun z => z.elim hab (fun y => y hdd))] at k
        refine ⟨_, rfl, _, _, _, _, rfl, W.party hi, rfl, _, _, rfl, rfl, _, rfl, ?_⟩
        refine ite2 (fun h1 => ?_) (fun h1 => ?_)
        · have h1 := of_decide_eq_true h1
          rw [if_pos (by unfold Vbexac.room Vbexac.NUMBERS; rw [decide_eq_false]; omega)] at k
          exact ⟨one_le, fun p hp => k.fin W Ext.refl rfl rfl hp rfl⟩
        have hrm : (Vbexac.paper v.s i).next + 1 ≤ 60 := by
          have : ¬ (60 : Int) ≤ ((Vbexac.paper v.s i).next : Int) := fun z => h1 (decide_eq_true z)
          omega
        rw [if_neg (by unfold Vbexac.room Vbexac.NUMBERS; rw [decide_eq_true hrm]; simp)] at k
        refine cutStep (n := 0) W Ext.refl rfl rfl k fun c H1 W1 X1 k => ?_
        obtain ⟨J1, J2, _⟩ := (I.armed c).join hmem hm hmem' hm' hab hdd hrm
        obtain ⟨W2, X2⟩ := W1.mark (m := .dead) ((I.armed c).st.uq i) he
        have g2 := mark_at (s := { v.s with armed := c }) (m := .dead) he
        have g2' : (Vbexac.paper (Vbexac.mark { v.s with armed := c } i e.id .dead) i).entries[j']? = some f := by
          rw [mark_get (s := { v.s with armed := c }) he', up_same (fun z => hab z.2.symm)]
        obtain ⟨W3, X3⟩ := W2.mark (m := .dead) (J1.uq i) g2'
        have g3 : (Vbexac.paper (Vbexac.mark (Vbexac.mark { v.s with armed := c } i e.id .dead) i f.id .dead) i).entries[j]? = some { e with mark := .dead } := by
          rw [mark_get g2, up_same (x := { e with mark := .dead }) (fun z => hab z.2)]
        have g3' := mark_at (m := .dead) g2'
        have hi3 : i < (Vbexac.mark (Vbexac.mark { v.s with armed := c } i e.id .dead) i f.id .dead).papers.length := by rw [mark_papers_len, mark_papers_len]; exact hi
        refine ⟨_, rfl, _, _, _, _, rfl, W1.entry he, (by show 5 < 1000; decide), rfl, ?_⟩
        refine ⟨_, rfl, _, _, _, _, rfl, W2.entry g2', (by show 5 < 1000; decide), rfl, ?_⟩
        refine ⟨_, rfl, _, _, _, rfl, W3.party hi3, rfl, _, rfl, _, _, _, _, rfl, W3.entry g3, rfl, _, rfl, _, _, _, _, rfl, W3.entry g3, rfl, _, rfl, _, _, _, _, rfl, W3.entry g3', rfl, _, _, rfl, rfl, _, rfl, _, _, _, _, rfl, W3.party hi3, rfl, ?_⟩
        refine ⟨_, i, e.depot, e.food + f.food, .held, i, W3, rfl, hi3, ?_, fun x dx H4 W4 X4 => ?_⟩
        · show (Vbexac.paper (Vbexac.mark (Vbexac.mark { v.s with armed := c } i e.id .dead) i f.id .dead) i).entries.length < sizeLine
          rw [mark_elen, mark_elen]; exact line_lt (Nat.le_trans (Z.en i) (by decide))
        have n4 := writeNew_get (s := Vbexac.mark (Vbexac.mark { v.s with armed := c } i e.id .dead) i f.id .dead) (d := e.depot) (f := e.food + f.food) (m := .held) (o := i) hi3
        refine ⟨_, rfl, _, _, _, _, rfl, W4.entry n4, rfl, two_le, fun p hp => k.fin W4 (((X1.trans X2).trans X3).trans X4) rfl rfl hp ?_⟩
        show ([V.int 0, V.int (Vbexac.nextId (Vbexac.mark (Vbexac.mark { v.s with armed := c } i e.id .dead) i f.id .dead) i : Nat)] : List V) = _
        rw [nextId_mark, nextId_mark]; rfl
      · refine ⟨_, rfl, _, rfl, ?_⟩
        refine iteF ⟨_, rfl, _, rfl, ?_⟩
        refine iteT ?_
        exact ⟨one_le, fun p hp => refuse (by unfold Vbexac.act; exact (ofEntry_some hi hf hm).trans (ofEntry_no hi hno')) hp⟩
    · refine ⟨_, rfl, _, _, _, rfl, W.party hi, rfl, _, rfl, v, i, b, .held, W, rfl, hi, fun j' f he' hf' hm' => ?_, fun hno' => ?_⟩
      · refine ⟨_, rfl, _, rfl, ?_⟩
        refine iteT ?_
        exact iteT ⟨one_le, fun p hp => refuse (by unfold Vbexac.act; exact ofEntry_no hi hno) hp⟩
      · refine ⟨_, rfl, _, rfl, ?_⟩
        refine iteT ?_
        exact iteT ⟨one_le, fun p hp => refuse (by unfold Vbexac.act; exact ofEntry_no hi hno) hp⟩
theorem ok_air_is_full {f : Addr} {fd : FuncData} (F : Fun K "air_is_full" "air_is_full" s_air_is_full f fd) (T : Txt K mg C) : FnOk P w K mg base CX0 1 f fd ["world"] (sp_air_is_full C) := by
  refine F.ok sc_air_is_full (fun vs H Q E h => ?_) (fun cdv A outer s H vs Q E hr h => ?_)
  · obtain ⟨v, W, rfl, k⟩ := h
    rfl
  · obtain ⟨v, W, rfl, k⟩ := h
    refine ⟨_, (pss_one (ps_ret (pe_cmpR op_ge (pe_callB call_len_seq (by rfl) T.b_len PySem.boot_len (pa_cons (pf T.cW (T.nW _ (by decide +kernel)) (pv 0)) pa_nil)) (pe_gc T.g_MOST_MESSAGES) (nomark _)))), ?_⟩
    refine ⟨_, rfl, _, _, _, _, rfl, W.world, rfl, _, _, rfl, .inl (SqL.of W.lm), _, _, rfl, rfl, ?_⟩
    rw [refsV_len]
    have e : decide ((400 : Int) ≤ (v.s.air.length : Int)) = Vbexac.full v.s 1 := by
      unfold Vbexac.full Vbexac.MESSAGES
      rw [Bool.eq_iff_iff, decide_eq_true_iff, decide_eq_true_iff]
      omega
    show Q (.bl (decide ((400 : Int) ≤ (v.s.air.length : Int)))) H
    rw [e]; exact k
theorem ok_World_put_message {f : Addr} {fd : FuncData} (F : Fun K "put_message" "World.put_message" s_World_put_message f fd) (T : Txt K mg C) : FnOk P w K mg base CX0 1 f fd ["self", "message"] (sp_World_put_message C) := by
  refine F.ok sc_World_put_message (fun vs H Q E h => ?_) (fun cdv A outer s H vs Q E hr h => ?_)
  · obtain ⟨v, x, dx, m, W, rfl, n, hx, hz, k⟩ := h
    rfl
  · obtain ⟨v, x, dx, m, W, rfl, n, hx, hz, k⟩ := h
    refine ⟨_, (pss_cons (ps_expr (pe_bm PySem.F.plainAttrs_list PySem.F.slot_list_append PySem.F.type_list_append mt_append (pf T.cW (T.nW _ (by decide +kernel)) (pv 0)) (pa_cons (pv 1) pa_nil)))
      (pss_one (ps_ret (pe_op op_sub (pe_callB call_len_seq (by rfl) T.b_len PySem.boot_len (pa_cons (pf T.cW (T.nW _ (by decide +kernel)) (pv 0)) pa_nil)) pe_int)))), ?_⟩
    obtain ⟨W1, X1⟩ := W.send n hx
    refine ⟨_, rfl, _, _, _, _, rfl, W.world, rfl, .inl ⟨rfl, _, SqL.of W.lm⟩, _, rfl, _, _, _, rfl, rfl, W.lm, by rw [refsV_len]; exact line_lt (by omega), ?_⟩
    refine ⟨_, rfl, _, _, _, _, rfl, W1.world, rfl, _, _, rfl, .inl (SqL.of W1.lm), _, _, rfl, rfl, ?_⟩
    rw [refsV_len]
    have e : (((v.put (.msg v.s.air.length) x dx (Vbexac.send v.s m)).s.air.length : Nat) : Int) - 1 = (v.s.air.length : Int) := by
      show (((v.s.air ++ [m]).length : Nat) : Int) - 1 = _
      rw [List.length_append, List.length_singleton]; omega
    show Q (.int ((((v.put (.msg v.s.air.length) x dx (Vbexac.send v.s m)).s.air.length : Nat) : Int) - 1)) _
    rw [e]
    exact k _ W1 fun H0 h0 ext => X1 h0 ext
theorem ok_send_about {f : Addr} {fd : FuncData} (F : Fun K "send_about" "send_about" s_send_about f fd) (T : Txt K mg C)
    (F_World_put_message : Mt P w K mg base C.W "put_message" 1 ["self", "message"] (sp_World_put_message C))
    (F_Message : Mc P w K mg base "Message" C.M 1 ["self", "kind", "sender", "receiver", "number", "depot", "rations"] (sp_Message___init__ C)) : FnOk P w K mg base CX0 3 f fd ["world", "party", "given", "kind"] (sp_send_about C) := by
  refine F.ok sc_send_about (fun vs H Q E h => ?_) (fun cdv A outer s H vs Q E hr h => ?_)
  · obtain ⟨v, i, j, kd, e, W, rfl, hi, he, hz, k⟩ := h
    rfl
  · obtain ⟨v, i, j, kd, e, W, rfl, hi, he, hz, k⟩ := h
    refine ⟨_, (pss_one (ps_ret (pe_mt F_World_put_message (hr.mono (by decide)) (pv 0) (pa_cons (pe_mc F_Message (hr.mono (by decide)) (pa_cons (pv 3) (pa_cons (pf T.cP (T.nP _ (by decide +kernel)) (pv 1)) (pa_cons (pf T.cE (T.nE _ (by decide +kernel)) (pv 2)) (pa_cons (pf T.cE (T.nE _ (by decide +kernel)) (pv 2)) (pa_cons (pf T.cE (T.nE _ (by decide +kernel)) (pv 2)) (pa_cons (pf T.cE (T.nE _ (by decide +kernel)) (pv 2)) pa_nil))))))) pa_nil)))), ?_⟩
    refine ⟨_, rfl, _, _, _, rfl, W.world, rfl, _, rfl, _, rfl, _, _, _, _, rfl, W.party hi, rfl, _, rfl, _, _, _, _, rfl, W.entry he, rfl, _, rfl, _, _, _, _, rfl, W.entry he, rfl, _, rfl, _, _, _, _, rfl, W.entry he, rfl, _, rfl, _, _, _, _, rfl, W.entry he, rfl, fun x dx nx nd ne => ?_⟩
    refine ⟨x, dx, _, _, _, _, _, _, rfl, upd_same, rfl, ?_⟩
    rw [upd_upd]
    obtain ⟨W1, X1⟩ := W.made (o1 := .own x) (o2 := .ins C.M dx (mF (about kd i e))) nx nd
    exact ⟨v, x, dx, about kd i e, W1, rfl, W.new nx, upd_same, hz, fun H' W2 X2 => k x dx H' W2 (X2 H nx X1)⟩
theorem ok_call_give {f : Addr} {fd : FuncData} (F : Fun K "call_give" "call_give" s_call_give f fd) (T : Txt K mg C)
    (F_Party_entry_marked : Mt P w K mg base C.P "entry_marked" 2 ["self", "number", "mark"] (sp_Party_entry_marked C))
    (F_air_is_full : Fn P w K mg base "air_is_full" 1 ["world"] (sp_air_is_full C))
    (F_World_cuts_off : Mt P w K mg base C.W "cuts_off" 1 ["self"] (sp_World_cuts_off C))
    (F_Party_put_new_entry : Mt P w K mg base C.P "put_new_entry" 4 ["self", "depot", "rations", "mark", "other"] (sp_Party_put_new_entry C))
    (F_send_about : Fn P w K mg base "send_about" 3 ["world", "party", "given", "kind"] (sp_send_about C)) : FnOk P w K mg base CX0 5 f fd ["world", "party", "i", "q"] (sp_call_give C) := by
  refine F.ok sc_call_give (fun vs H Q E h => ?_) (fun cdv A outer s H vs Q E hr h => ?_)
  · obtain ⟨v, i, id, q, W, rfl, hi, I, Z, k⟩ := h
    rfl
  · obtain ⟨v, i, id, q, W, rfl, hi, I, Z, k⟩ := h
    refine ⟨_, (pss_cons (ps_set (i := 4) sc_call_give.nd rfl (Or.inl rfl) (pe_mt F_Party_entry_marked (hr.mono (by decide)) (pv 1) (pa_cons (pv 2) (pa_cons (pe_gc T.g_HELD) pa_nil))))
      (pss_cons (ps_if (pt_cmp (pc_isN (pv 4))) (pss_one (ps_ret (pe_lst (pa_cons pe_neg pa_nil)))) pss_nil)
      (pss_cons (ps_if (pw_or (pt_cmpR op_ge (pv 3) (pe_callB call_len_seq (by rfl) T.b_len PySem.boot_len (pa_cons (pf T.cW (T.nW _ (by decide +kernel)) (pv 0)) pa_nil)) (nomark _)) (pw_or1 (pt_cmpR op_eq (pv 3) (pf T.cP (T.nP _ (by decide +kernel)) (pv 1)) (nomark _)))).pt (pss_one (ps_ret (pe_lst (pa_cons pe_neg pa_nil)))) pss_nil)
      (pss_cons (ps_if (pt_cmpR op_ge (pf T.cP (T.nP _ (by decide +kernel)) (pv 1)) (pe_gc T.g_MOST_MADE) (nomark _)) (pss_one (ps_ret (pe_lst (pa_cons pe_neg pa_nil)))) pss_nil)
      (pss_cons (ps_if (pt_call (pe_fn F_air_is_full (hr.mono (by decide)) (pa_cons (pv 0) pa_nil))) (pss_one (ps_ret (pe_lst (pa_cons pe_neg pa_nil)))) pss_nil)
      (pss_cons (ps_if (pt_call (pe_mt0 F_World_cuts_off (hr.mono (by decide)) (pv 0))) (pss_one (ps_ret (pe_lst (pa_cons (pe_gc T.g_CUT_OFF) pa_nil)))) pss_nil)
      (pss_cons (psf T.cE (T.nE _ (by decide +kernel)) (pv 4) (pe_gc T.g_OVER))
      (pss_cons (ps_set (i := 5) sc_call_give.nd rfl (Or.inl rfl) (pe_mt F_Party_put_new_entry (hr.mono (by decide)) (pv 1) (pa_cons (pf T.cE (T.nE _ (by decide +kernel)) (pv 4)) (pa_cons (pf T.cE (T.nE _ (by decide +kernel)) (pv 4)) (pa_cons (pe_gc T.g_GIVEN) (pa_cons (pv 3) pa_nil))))))
      (pss_cons (ps_if (pt_call (pe_mt0 F_World_cuts_off (hr.mono (by decide)) (pv 0))) (pss_one (ps_ret (pe_lst (pa_cons (pe_gc T.g_CUT_OFF) pa_nil)))) pss_nil)
      (pss_one (ps_ret (pe_lst (pa_cons pe_int (pa_cons (pf T.cE (T.nE _ (by decide +kernel)) (pv 5)) (pa_cons (pe_fn F_send_about (hr.mono (by decide)) (pa_cons (pv 0) (pa_cons (pv 1) (pa_cons (pv 5) (pa_cons (pe_gc T.g_KIND_GIFT) pa_nil))))) pa_nil))))))))))))))), ?_⟩
    refine ⟨_, rfl, _, _, _, rfl, W.party hi, rfl, _, rfl, v, i, id, .held, W, rfl, hi, fun j e he hf hm => ?_, fun hno => ?_⟩
    · rw [show Vbexac.act v.s (.give i id q) = if (v.s.papers.length : Int) ≤ q ∨ (q : Int) = (i : Int) then (v.s, [-5]) else if Vbexac.room v.s i 1 = false then (v.s, [-6]) else if Vbexac.full v.s 1 = true then (v.s, [-7]) else Vbexac.doSteps v.s (Vbexac.giveSteps i q e (Vbexac.nextId v.s i)) fun t => [(Vbexac.nextId v.s i : Int), (t.air.length : Int) - 1] by
        unfold Vbexac.act; exact ofEntry_some hi hf hm] at k
      refine ⟨_, rfl, _, rfl, ?_⟩
      refine iteF ?_
      have hmem := List.mem_of_getElem? he
      refine ⟨_, rfl, _, rfl, _, _, _, _, rfl, W.world, rfl, _, _, rfl, .inl (SqL.of W.lp), _, _, rfl, rfl, _, rfl, ?_⟩
      rw [refsV_len]
      refine ite2 (fun h => ?_) (fun h => ?_)
      · refine iteT ?_
        rw [if_pos (.inl (of_decide_eq_true h))] at k
        exact ⟨one_le, fun p hp => k.fin W Ext.refl rfl rfl hp rfl⟩
      have hq : ¬ (v.s.papers.length : Int) ≤ q := fun z => h (decide_eq_true z)
      refine ⟨_, rfl, _, rfl, _, _, _, _, rfl, W.party hi, rfl, rfl, _, rfl, ?_⟩
      refine ite2 (fun h => ?_) (fun h => ?_)
      · have := of_decide_eq_true h
        simp at this
        rw [if_pos (.inr (by omega))] at k
        exact ⟨one_le, fun p hp => k.fin W Ext.refl rfl rfl hp rfl⟩
      have hqi : q ≠ i := fun z => h (decide_eq_true (by rw [z]))
      rw [if_neg (fun z => z.elim hq (fun y => hqi (by omega)))] at k
      refine ⟨_, rfl, _, _, _, _, rfl, W.party hi, rfl, _, _, rfl, rfl, _, rfl, ?_⟩
      refine ite2 (fun h1 => ?_) (fun h1 => ?_)
      · have h1 := of_decide_eq_true h1
        rw [if_pos (by unfold Vbexac.room Vbexac.NUMBERS; rw [decide_eq_false]; omega)] at k
        exact ⟨one_le, fun p hp => k.fin W Ext.refl rfl rfl hp rfl⟩
      have hrm : (Vbexac.paper v.s i).next + 1 ≤ 60 := by
        have : ¬ (60 : Int) ≤ ((Vbexac.paper v.s i).next : Int) := fun z => h1 (decide_eq_true z)
        omega
      rw [if_neg (by unfold Vbexac.room Vbexac.NUMBERS; rw [decide_eq_true hrm]; simp)] at k
      refine ⟨_, rfl, v, W, rfl, _, rfl, ?_⟩
      refine ite2 (fun h2 => ?_) (fun h2 => ?_)
      · rw [if_pos h2] at k
        exact ⟨one_le, fun p hp => k.fin W Ext.refl rfl rfl hp rfl⟩
      rw [if_neg h2] at k
      have hair := full_lt h2
      unfold Vbexac.giveSteps at k
      refine cutStep (n := 0) W Ext.refl rfl rfl k fun a H1 W1 X1 k => ?_
      obtain ⟨W2, X2⟩ := W1.mark (m := .dead) ((I.armed a).st.uq i) he
      have g2 := mark_at (s := { v.s with armed := a }) (m := .dead) he
      have hi2 : i < (Vbexac.mark { v.s with armed := a } i e.id .dead).papers.length := by rw [mark_papers_len]; exact hi
      refine ⟨_, rfl, _, _, _, _, rfl, W1.entry he, (by show 5 < 1000; decide), rfl, ?_⟩
      refine ⟨_, rfl, _, _, _, rfl, W2.party hi2, rfl, _, rfl, _, _, _, _, rfl, W2.entry g2, rfl, _, rfl, _, _, _, _, rfl, W2.entry g2, rfl, _, rfl, ?_⟩
      refine ⟨_, i, e.depot, e.food, .out, q, W2, rfl, hi2, ?_, fun x dx H3 W3 X3 => ?_⟩
      · show (Vbexac.paper (Vbexac.mark { v.s with armed := a } i e.id .dead) i).entries.length < sizeLine
        rw [mark_elen]; exact line_lt (Nat.le_trans (Z.en i) (by decide))
      have n3 := writeNew_get (s := Vbexac.mark { v.s with armed := a } i e.id .dead) (d := e.depot) (f := e.food) (m := .out) (o := q) hi2
      have hi3 : i < (Vbexac.writeNew (Vbexac.mark { v.s with armed := a } i e.id .dead) i e.depot e.food .out q).papers.length := by rw [writeNew_len]; exact hi2
      have hid : Vbexac.nextId (Vbexac.mark { v.s with armed := a } i e.id .dead) i = Vbexac.nextId v.s i := nextId_mark
      refine cutStep (n := 0) W3 ((X1.trans X2).trans X3) rfl rfl k fun b H4 W4 X4 k => ?_
      refine ⟨_, rfl, _, _, _, _, rfl, W4.entry n3, rfl, _, rfl, _, rfl, _, rfl, ?_⟩
      refine ⟨_, i, _, 0, _, W4, rfl, hi3, n3, by show v.s.air.length < 2000000; omega, fun x' dx' H5 W5 X5 => ?_⟩
      rw [doSteps_nil] at k
      refine ⟨three_le, fun p hp => k.fin W5 (X4.trans X5) rfl ?_ hp ?_⟩
      · show Vbexac.send { Vbexac.writeNew (Vbexac.mark { v.s with armed := a } i e.id .dead) i e.depot e.food .out q with armed := b } (about 0 i (newE (Vbexac.mark { v.s with armed := a } i e.id .dead) i e.depot e.food .out q)) = _
        unfold about newE
        rw [hid]
        rfl
      · show ([V.int 0, V.int (Vbexac.nextId (Vbexac.mark { v.s with armed := a } i e.id .dead) i : Nat), V.int (v.s.air.length : Nat)] : List V) = [V.int 0, V.int (Vbexac.nextId v.s i : Nat), V.int (((v.s.air ++ [_]).length : Nat) - 1 : Int)]
        rw [hid, List.length_append, List.length_singleton]
        have : (((v.s.air.length + 1 : Nat) : Int) - 1) = (v.s.air.length : Int) := by omega
        rw [this]
    · rw [show Vbexac.act v.s (.give i id q) = (v.s, [-4]) by unfold Vbexac.act; exact ofEntry_no hi hno] at k
      refine ⟨_, rfl, _, rfl, ?_⟩
      refine iteT ?_
      exact ⟨one_le, fun p hp => k.fin W Ext.refl rfl rfl hp rfl⟩
theorem ok_send_once_more {f : Addr} {fd : FuncData} (F : Fun K "send_once_more" "send_once_more" s_send_once_more f fd) (T : Txt K mg C)
    (F_Party_entry_marked : Mt P w K mg base C.P "entry_marked" 2 ["self", "number", "mark"] (sp_Party_entry_marked C))
    (F_air_is_full : Fn P w K mg base "air_is_full" 1 ["world"] (sp_air_is_full C))
    (F_World_cuts_off : Mt P w K mg base C.W "cuts_off" 1 ["self"] (sp_World_cuts_off C))
    (F_send_about : Fn P w K mg base "send_about" 3 ["world", "party", "given", "kind"] (sp_send_about C)) : FnOk P w K mg base CX0 4 f fd ["world", "party", "i", "kind"] (sp_send_once_more C) := by
  refine F.ok sc_send_once_more (fun vs H Q E h => ?_) (fun cdv A outer s H vs Q E hr h => ?_)
  · obtain ⟨v, i, id, kd, W, rfl, hi, I, Z, hk, k⟩ := h
    rfl
  · obtain ⟨v, i, id, kd, W, rfl, hi, I, Z, hk, k⟩ := h
    refine ⟨_, (pss_cons (ps_set (i := 4) sc_send_once_more.nd rfl (Or.inl rfl) (pe_mt F_Party_entry_marked (hr.mono (by decide)) (pv 1) (pa_cons (pv 2) (pa_cons (pe_gc T.g_GIVEN) pa_nil))))
      (pss_cons (ps_if (pt_cmp (pc_isN (pv 4))) (pss_one (ps_ret (pe_lst (pa_cons pe_neg pa_nil)))) pss_nil)
      (pss_cons (ps_if (pt_call (pe_fn F_air_is_full (hr.mono (by decide)) (pa_cons (pv 0) pa_nil))) (pss_one (ps_ret (pe_lst (pa_cons pe_neg pa_nil)))) pss_nil)
      (pss_cons (ps_if (pt_call (pe_mt0 F_World_cuts_off (hr.mono (by decide)) (pv 0))) (pss_one (ps_ret (pe_lst (pa_cons (pe_gc T.g_CUT_OFF) pa_nil)))) pss_nil)
      (pss_one (ps_ret (pe_lst (pa_cons pe_int (pa_cons (pe_fn F_send_about (hr.mono (by decide)) (pa_cons (pv 0) (pa_cons (pv 1) (pa_cons (pv 4) (pa_cons (pv 3) pa_nil))))) pa_nil))))))))), ?_⟩
    refine ⟨_, rfl, _, _, _, rfl, W.party hi, rfl, _, rfl, v, i, id, .out, W, rfl, hi, fun j e he hf hm => ?_, fun hno => ?_⟩
    · rw [show Vbexac.act v.s (if kd = 0 then .again i id else .ask i id) = if Vbexac.full v.s 1 = true then (v.s, [-7]) else Vbexac.doSteps v.s [fun s => Vbexac.send s (about kd i e)] fun t => [(t.air.length : Int) - 1] by
        rcases hk with rfl | rfl
        · rw [if_pos rfl]; unfold Vbexac.act; exact ofEntry_some hi hf hm
        · rw [if_neg (by decide)]; unfold Vbexac.act; exact ofEntry_some hi hf hm] at k
      refine ⟨_, rfl, _, rfl, ?_⟩
      refine iteF ?_
      refine ⟨_, rfl, v, W, rfl, _, rfl, ?_⟩
      refine ite2 (fun h2 => ?_) (fun h2 => ?_)
      · rw [if_pos h2] at k
        exact ⟨one_le, fun p hp => k.fin W Ext.refl rfl rfl hp rfl⟩
      rw [if_neg h2] at k
      have hair := full_lt h2
      refine cutStep (n := 0) W Ext.refl rfl rfl k fun a H1 W1 X1 k => ?_
      refine ⟨_, rfl, _, rfl, _, rfl, _, rfl, ?_⟩
      refine ⟨_, i, j, kd, e, W1, rfl, hi, he, by show v.s.air.length < 2000000; omega, fun x dx H2 W2 X2 => ?_⟩
      rw [doSteps_nil] at k
      refine ⟨two_le, fun p hp => k.fin W2 (X1.trans X2) rfl rfl hp ?_⟩
      show ([V.int 0, V.int (v.s.air.length : Nat)] : List V) = [V.int 0, V.int (((v.s.air ++ [_]).length : Nat) - 1 : Int)]
      rw [List.length_append, List.length_singleton]
      have : (((v.s.air.length + 1 : Nat) : Int) - 1) = (v.s.air.length : Int) := by omega
      rw [this]
    · rw [show Vbexac.act v.s (if kd = 0 then .again i id else .ask i id) = (v.s, [-4]) by
        rcases hk with rfl | rfl
        · rw [if_pos rfl]; unfold Vbexac.act; exact ofEntry_no hi hno
        · rw [if_neg (by decide)]; unfold Vbexac.act; exact ofEntry_no hi hno] at k
      refine ⟨_, rfl, _, rfl, ?_⟩
      refine iteT ?_
      exact ⟨one_le, fun p hp => k.fin W Ext.refl rfl rfl hp rfl⟩
theorem ok_call_again {f : Addr} {fd : FuncData} (F : Fun K "call_again" "call_again" s_call_again f fd) (T : Txt K mg C)
    (F_send_once_more : Fn P w K mg base "send_once_more" 4 ["world", "party", "i", "kind"] (sp_send_once_more C)) : FnOk P w K mg base CX0 5 f fd ["world", "party", "i"] (sp_call_again C) := by
  refine F.ok sc_call_again (fun vs H Q E h => ?_) (fun cdv A outer s H vs Q E hr h => ?_)
  · obtain ⟨v, i, id, W, rfl, hi, I, Z, k⟩ := h
    rfl
  · obtain ⟨v, i, id, W, rfl, hi, I, Z, k⟩ := h
    refine ⟨_, (pss_one (ps_ret (pe_fn F_send_once_more (hr.mono (by decide)) (pa_cons (pv 0) (pa_cons (pv 1) (pa_cons (pv 2) (pa_cons (pe_gc T.g_KIND_GIFT) pa_nil))))))), ?_⟩
    exact ⟨_, rfl, _, rfl, _, rfl, v, i, id, 0, W, rfl, hi, I, Z, .inl rfl, k⟩
theorem ok_call_ask {f : Addr} {fd : FuncData} (F : Fun K "call_ask" "call_ask" s_call_ask f fd) (T : Txt K mg C)
    (F_send_once_more : Fn P w K mg base "send_once_more" 4 ["world", "party", "i", "kind"] (sp_send_once_more C)) : FnOk P w K mg base CX0 5 f fd ["world", "party", "i"] (sp_call_ask C) := by
  refine F.ok sc_call_ask (fun vs H Q E h => ?_) (fun cdv A outer s H vs Q E hr h => ?_)
  · obtain ⟨v, i, id, W, rfl, hi, I, Z, k⟩ := h
    rfl
  · obtain ⟨v, i, id, W, rfl, hi, I, Z, k⟩ := h
    refine ⟨_, (pss_one (ps_ret (pe_fn F_send_once_more (hr.mono (by decide)) (pa_cons (pv 0) (pa_cons (pv 1) (pa_cons (pv 2) (pa_cons (pe_gc T.g_KIND_ASK) pa_nil))))))), ?_⟩
    exact ⟨_, rfl, _, rfl, _, rfl, v, i, id, 2, W, rfl, hi, I, Z, .inr rfl, k⟩
end
end RF
end
section
set_option linter.all false
set_option Elab.async false
set_option maxRecDepth 100000
set_option maxHeartbeats 4000000
namespace RF
open PySem PySem.Spec PyProof.Rows L2
def reply (k : Nat) (m : Vbexac.Message) : Vbexac.Message := { kind := k, sender := m.to, to := m.sender, id := m.id, depot := m.depot, food := m.food }
def heard (m : Vbexac.Message) (k : Vbexac.Mark) : Vbexac.Entry := { id := m.id, depot := m.depot, food := m.food, mark := k, other := m.sender }
def hearOk (s : Vbexac.St) : Vbexac.St → List Int := fun t => if t.air.length = s.air.length then [-1] else [(t.air.length : Int) - 1]
/-- a gift or an ask, and the mark that is written where there's no entry -/
def Asks (m : Vbexac.Message) (k : Vbexac.Mark) : Prop := (m.kind = 0 ∧ k = .held) ∨ (m.kind = 2 ∧ k = .refused)
section
variable {s : Vbexac.St} {m : Vbexac.Message} {k : Vbexac.Mark} {e : Vbexac.Entry}
theorem hearSteps_none (h : Asks m k) (hn : Vbexac.entry s m.to m.id = none) : Vbexac.hearSteps s m = [fun s => Vbexac.write s m.to (heard m k), fun s => Vbexac.send s (reply (if Vbexac.is k .refused = true then 3 else 1) m)] := by
  unfold Vbexac.hearSteps
  rcases h with ⟨h, rfl⟩ | ⟨h, rfl⟩
  · simp only []
    rw [if_pos h, hn]
    rfl
  · simp only []
    rw [if_neg (by rw [h]; decide), if_pos h, hn]
    rfl
theorem hearSteps_some (h : Asks m k) (hn : Vbexac.entry s m.to m.id = some e) : Vbexac.hearSteps s m = [fun s => Vbexac.send s (reply (if Vbexac.is e.mark .refused = true then 3 else 1) m)] := by
  unfold Vbexac.hearSteps
  rcases h with ⟨h, rfl⟩ | ⟨h, rfl⟩
  · simp only []
    rw [if_pos h, hn]
    rfl
  · simp only []
    rw [if_neg (by rw [h]; decide), if_pos h, hn]
    rfl
/-- got or refused, and the mark that the gift gets -/
def Says (m : Vbexac.Message) (k : Vbexac.Mark) : Prop := (m.kind = 1 ∧ k = .gone) ∨ (m.kind = 3 ∧ k = .held)
theorem hearSteps_no (h : Says m k) (hn : ∀ e, Vbexac.entry s m.to m.id = some e → ¬ (e.mark = .out ∧ e.other = m.sender)) : Vbexac.hearSteps s m = [] := by
  have h0 : m.kind ≠ 0 ∧ m.kind ≠ 2 := by rcases h with ⟨h, _⟩ | ⟨h, _⟩ <;> rw [h] <;> decide
  unfold Vbexac.hearSteps
  simp only []
  rw [if_neg h0.1, if_neg h0.2]
  cases q : Vbexac.entry s m.to m.id with
  | none => rfl
  | some e =>
    simp only []
    rw [if_neg (fun z => hn e q ⟨is_iff.mp z.1, z.2⟩)]
theorem hearSteps_yes (h : Says m k) (hn : Vbexac.entry s m.to m.id = some e) (hm : e.mark = .out) (ho : e.other = m.sender) : Vbexac.hearSteps s m = [fun s => Vbexac.mark s m.to m.id k] := by
  have h0 : m.kind ≠ 0 ∧ m.kind ≠ 2 := by rcases h with ⟨h, _⟩ | ⟨h, _⟩ <;> rw [h] <;> decide
  unfold Vbexac.hearSteps
  simp only []
  rw [if_neg h0.1, if_neg h0.2, hn]
  simp only []
  rw [if_pos ⟨is_iff.mpr hm, ho⟩]
  rcases h with ⟨h, rfl⟩ | ⟨h, rfl⟩
  · rw [if_pos h]
  · rw [if_neg (by rw [h]; decide)]
theorem write_get {i : Nat} (hi : i < s.papers.length) : (Vbexac.paper (Vbexac.write s i e) i).entries[(Vbexac.paper s i).entries.length]? = some e := by
  rw [write_add, add_paper hi, if_pos rfl]
  simp
end
/-- the addresses of what is there stay -/
def Stays (C : Cs) (v v' : Vw) : Prop := ∀ r o, cont C v r = some o → v'.G r = v.G r
def DoneS (C : Cs) (v : Vw) (H : Hp) (r : Vbexac.St × List Int) (Q : VK) : Prop := ∀ (v' : Vw) (H' : Hp) (p : Addr), v'.s = r.1 → Stays C v v' → At C v' H' → Ext C v H v' H' → H p = none → H' p = some (.lst (r.2.map V.int)) → ¬ Foot C v' p → Q (.ref p) H'
section
variable {C : Cs} {v v' : Vw} {H H' : Hp} {Q : VK}
theorem Done.s {r : Vbexac.St × List Int} (k : Done C v H r Q) : DoneS C v H r Q := fun v' H' p h1 h2 => k v' H' p h1 (h2 .world _ rfl)
theorem DoneS.fin {r : Vbexac.St × List Int} (k : DoneS C v H r Q) (W : At C v' H') (X : Ext C v H v' H') (hw : Stays C v v') (hs : v'.s = r.1) {p : Addr} {vs : List V} (hp : H' p = none) (hv : vs = r.2.map V.int) : Q (.ref p) (upd H' p (.lst vs)) := by
  subst hv
  obtain ⟨W2, X2⟩ := W.laidNew (o := .lst (r.2.map V.int)) hp
  exact k v' _ p hs hw W2 (X.trans X2) (X.live p hp) upd_same (W.new hp)
theorem Stays.put {v1 : Vw} {r : Role} {x dx : Addr} {s' : Vbexac.St} (h : Stays C v v1) (hn : cont C v r = none) : Stays C v (v1.put r x dx s') := fun q o hq => by
  have e : q ≠ r := fun z => by rw [z, hn] at hq; cases hq
  exact (if_neg e).trans (h q o hq)
theorem Stays.refl {s' : Vbexac.St} : Stays C v { v with s := s' } := fun _ _ _ => rfl
theorem Stays.st {v1 : Vw} {s' : Vbexac.St} (h : Stays C v v1) : Stays C v { v1 with s := s' } := h
theorem cont_msg_none : cont C v (.msg v.s.air.length) = none := by
  show (v.s.air[v.s.air.length]?).map _ = none
  rw [List.getElem?_eq_none (Nat.le_refl _)]; rfl
theorem cont_entry_none {i : Nat} : cont C v (.entry i (Vbexac.paper v.s i).entries.length) = none := by
  show ((Vbexac.paper v.s i).entries[(Vbexac.paper v.s i).entries.length]?).map _ = none
  rw [List.getElem?_eq_none (Nat.le_refl _)]; rfl
theorem cutStepS {C : Cs} {v v0 : Vw} {H H0 : Hp} {n : Nat} {σ : L2.St} {D : Ends} {rest : TS} {f : Vbexac.St → Vbexac.St} {r : List (Vbexac.St → Vbexac.St)} {ok : Vbexac.St → List Int} (W : At C v H) (X : Ext C v0 H0 v H) (hn : σ[n]? = some (some (.ref (v.G .world)))) (hw : Stays C v0 v)
    (k : DoneS C v0 H0 (Vbexac.doSteps v.s (f :: r) ok) D.rt) (go : ∀ a H', At C { v with s := { v.s with armed := a } } H' → Ext C v0 H0 { v with s := { v.s with armed := a } } H' → DoneS C v0 H0 (Vbexac.doSteps (f { v.s with armed := a }) r ok) D.rt → rest D σ H') :
    tSeq (tIfS (tB (tMeth C.W "cuts_off" (sp_World_cuts_off C) [] E0 (tVar n) tNil)) (tRet (tLst (tCons (tC (.int 1)) tNil))) tNext) rest D σ H := by
  refine ⟨_, hn, _, _, _, rfl, W.world, rfl, v, W, rfl, fun H1 W1 X1 => ⟨_, rfl, ?_⟩⟩
  rw [doSteps_cons] at k
  refine ite2 (fun c1 => ?_) (fun c1 => ?_)
  · rw [if_pos c1] at k
    exact ⟨by show 1 ≤ sizeLine; decide, fun p hp => k.fin W1 (X.trans X1) hw.st rfl hp rfl⟩
  · rw [if_neg c1] at k
    obtain ⟨a, ea⟩ := cut_eq v.s
    rw [ea] at W1 X1 k
    exact go a H1 W1 (X.trans X1) k
end
def sp_answer_to (C : Cs) : Sp := fun vs H Q _ => ∃ (v : Vw) (n k : Nat) (m : Vbexac.Message), At C v H ∧ vs = [.ref (v.G (.msg n)), .int k] ∧ v.s.air[n]? = some m ∧ ∀ x dx, H x = none → H dx = none → Q (.ref x) (upd (upd H dx (.own x)) x (.ins C.M dx (mF (reply k m))))
def sp_hear_and_answer (C : Cs) : Sp := fun vs H Q _ => ∃ (v : Vw) (n : Nat) (m : Vbexac.Message) (mk : Vbexac.Mark), At C v H ∧ vs = [.ref (v.G .world), .ref (v.G (.msg n)), .int (Vbexac.markNumber mk)] ∧ v.s.air[n]? = some m ∧ Asks m mk ∧ m.to < v.s.papers.length ∧ Small2 v.s ∧
  DoneS C v H (Vbexac.doSteps v.s (Vbexac.hearSteps v.s m) (hearOk v.s)) Q
def sp_hear_answer (C : Cs) : Sp := fun vs H Q _ => ∃ (v : Vw) (n : Nat) (m : Vbexac.Message) (mk : Vbexac.Mark), At C v H ∧ vs = [.ref (v.G .world), .ref (v.G (.msg n)), .int (Vbexac.markNumber mk)] ∧ v.s.air[n]? = some m ∧ Says m mk ∧ m.to < v.s.papers.length ∧ InvS v.s ∧
  DoneS C v H (Vbexac.doSteps v.s (Vbexac.hearSteps v.s m) (hearOk v.s)) Q
def sp_hear_message (C : Cs) : Sp := fun vs H Q _ => ∃ (v : Vw) (n : Nat) (m : Vbexac.Message), At C v H ∧ vs = [.ref (v.G .world), .ref (v.G (.msg n))] ∧ v.s.air[n]? = some m ∧ Inv v.s ∧ Small2 v.s ∧ DoneS C v H (Vbexac.doSteps v.s (Vbexac.hearSteps v.s m) (hearOk v.s)) Q
def sp_call_hear (C : Cs) : Sp := fun vs H Q _ => ∃ (v : Vw) (n : Nat), At C v H ∧ vs = [.ref (v.G .world), .int n] ∧ Inv v.s ∧ Small v.s ∧ Done C v H (Vbexac.act v.s (.hear n)) Q
section
variable {P : Program} {w : World} {K : PySem.W.Frag} {mg : Str → Option Value} {base : Heap} {C : Cs}
theorem ok_answer_to {f : Addr} {fd : FuncData} (F : Fun K "answer_to" "answer_to" s_answer_to f fd) (T : Txt K mg C)
    (F_Message : Mc P w K mg base "Message" C.M 1 ["self", "kind", "sender", "receiver", "number", "depot", "rations"] (sp_Message___init__ C)) : FnOk P w K mg base CX0 3 f fd ["message", "kind"] (sp_answer_to C) := by
  refine F.ok sc_answer_to (fun vs H Q E h => ?_) (fun cdv A outer s H vs Q E hr h => ?_)
  · obtain ⟨v, n, kd, m, W, rfl, hm, k⟩ := h
    rfl
  · obtain ⟨v, n, kd, m, W, rfl, hm, k⟩ := h
    refine ⟨_, (pss_one (ps_ret (pe_mc F_Message (hr.mono (by decide)) (pa_cons (pv 1) (pa_cons (pf T.cM (T.nM _ (by decide +kernel)) (pv 0)) (pa_cons (pf T.cM (T.nM _ (by decide +kernel)) (pv 0)) (pa_cons (pf T.cM (T.nM _ (by decide +kernel)) (pv 0)) (pa_cons (pf T.cM (T.nM _ (by decide +kernel)) (pv 0)) (pa_cons (pf T.cM (T.nM _ (by decide +kernel)) (pv 0)) pa_nil))))))))), ?_⟩
    refine ⟨_, rfl, _, rfl, _, _, _, _, rfl, W.msg hm, rfl, _, rfl, _, _, _, _, rfl, W.msg hm, rfl, _, rfl, _, _, _, _, rfl, W.msg hm, rfl, _, rfl, _, _, _, _, rfl, W.msg hm, rfl, _, rfl, _, _, _, _, rfl, W.msg hm, rfl, fun x dx nx nd ne => ?_⟩
    refine ⟨x, dx, _, _, _, _, _, _, rfl, upd_same, rfl, ?_⟩
    rw [upd_upd]
    exact k x dx nx nd
theorem ok_hear_and_answer {f : Addr} {fd : FuncData} (F : Fun K "hear_and_answer" "hear_and_answer" s_hear_and_answer f fd) (T : Txt K mg C)
    (F_Party_entry_of : Mt P w K mg base C.P "entry_of" 1 ["self", "number"] (sp_Party_entry_of C))
    (F_World_cuts_off : Mt P w K mg base C.W "cuts_off" 1 ["self"] (sp_World_cuts_off C))
    (F_Party_put_entry : Mt P w K mg base C.P "put_entry" 3 ["self", "number", "depot", "rations", "mark", "other"] (sp_Party_put_entry C))
    (F_World_put_message : Mt P w K mg base C.W "put_message" 1 ["self", "message"] (sp_World_put_message C))
    (F_answer_to : Fn P w K mg base "answer_to" 3 ["message", "kind"] (sp_answer_to C)) : FnOk P w K mg base CX0 4 f fd ["world", "message", "mark"] (sp_hear_and_answer C) := by
  refine F.ok sc_hear_and_answer (fun vs H Q E h => ?_) (fun cdv A outer s H vs Q E hr h => ?_)
  · obtain ⟨v, n, m, mk, W, rfl, hm, hk, hto, Z, k⟩ := h
    rfl
  · obtain ⟨v, n, m, mk, W, rfl, hm, hk, hto, Z, k⟩ := h
    refine ⟨_, (pss_cons (ps_set (i := 3) sc_hear_and_answer.nd rfl (Or.inl rfl) (pe_ix ix_seq (pf T.cW (T.nW _ (by decide +kernel)) (pv 0)) (pf T.cM (T.nM _ (by decide +kernel)) (pv 1)) (fun _ _ => rfl)))
      (pss_cons (ps_set (i := 4) sc_hear_and_answer.nd rfl (Or.inl rfl) (pe_mt F_Party_entry_of (hr.mono (by decide)) (pv 3) (pa_cons (pf T.cM (T.nM _ (by decide +kernel)) (pv 1)) pa_nil)))
      (pss_cons (ps_if (pt_cmp (pc_isN (pv 4))) (pss_cons (ps_if (pt_call (pe_mt0 F_World_cuts_off (hr.mono (by decide)) (pv 0))) (pss_one (ps_ret (pe_lst (pa_cons (pe_gc T.g_CUT_OFF) pa_nil)))) pss_nil)
      (pss_one (ps_set (i := 4) sc_hear_and_answer.nd rfl (Or.inl rfl) (pe_mt F_Party_put_entry (hr.mono (by decide)) (pv 3) (pa_cons (pf T.cM (T.nM _ (by decide +kernel)) (pv 1)) (pa_cons (pf T.cM (T.nM _ (by decide +kernel)) (pv 1)) (pa_cons (pf T.cM (T.nM _ (by decide +kernel)) (pv 1)) (pa_cons (pv 2) (pa_cons (pf T.cM (T.nM _ (by decide +kernel)) (pv 1)) pa_nil))))))))) pss_nil)
      (pss_cons (ps_if (pt_call (pe_mt0 F_World_cuts_off (hr.mono (by decide)) (pv 0))) (pss_one (ps_ret (pe_lst (pa_cons (pe_gc T.g_CUT_OFF) pa_nil)))) pss_nil)
      (pss_cons (ps_set (i := 5) sc_hear_and_answer.nd rfl (Or.inl rfl) (pe_ifExp (pt_cmpR op_eq (pf T.cE (T.nE _ (by decide +kernel)) (pv 4)) (pe_gc T.g_REFUSED) (nomark _)) (pe_gc T.g_KIND_REFUSED) (pe_gc T.g_KIND_GOT)))
      (pss_one (ps_ret (pe_lst (pa_cons pe_int (pa_cons (pe_mt F_World_put_message (hr.mono (by decide)) (pv 0) (pa_cons (pe_fn F_answer_to (hr.mono (by decide)) (pa_cons (pv 1) (pa_cons (pv 5) pa_nil))) pa_nil)) pa_nil)))))))))), ?_⟩
    refine ⟨_, rfl, _, _, _, _, rfl, W.world, rfl, _, rfl, _, _, _, _, rfl, W.msg hm, rfl, .inl ⟨_, _, _, _, rfl, rfl, SqL.of W.lp, atI_nat (refsV_get hto), ?_⟩⟩
    refine ⟨_, rfl, _, _, _, rfl, W.party hto, rfl, _, rfl, _, _, _, _, rfl, W.msg hm, rfl, ?_⟩
    refine ⟨v, m.to, m.id, W, rfl, hto, fun j e he hf => ?_, fun hf => ?_⟩
    · rw [hearSteps_some hk hf] at k
      refine ⟨_, rfl, _, rfl, ?_⟩
      refine iteF ?_
      refine cutStepS (n := 0) W Ext.refl rfl Stays.refl k fun a H1 W1 X1 k => ?_
      refine ⟨_, rfl, _, _, _, _, rfl, W1.entry he, rfl, rfl, _, rfl, ?_⟩
      have fin : ∀ kd : Nat, kd = (if Vbexac.is e.mark .refused = true then 3 else 1) → ∀ σ : List (Option V), σ = [some (V.ref (v.G .world)), some (V.ref (v.G (.msg n))), some (V.int (Vbexac.markNumber mk)), some (V.ref (v.G (.party m.to))), some (V.ref (v.G (.entry m.to j))), some (V.int kd)] →
          tRet (tLst (tCons (tC (.int 0)) (tCons (tMeth C.W "put_message" (sp_World_put_message C) [] E0 (tVar 0) (tCons (tCall (sp_answer_to C) [] E0 (tCons (tVar 1) (tCons (tVar 5) tNil))) tNil)) tNil))) { nx := fun _ H' => Q .non H', rt := Q } σ H1 := by
        rintro kd ekd σ rfl
        refine ⟨_, rfl, _, _, _, rfl, W1.world, rfl, _, rfl, _, rfl, _, n, kd, m, W1, rfl, hm, fun x dx nx nd => ?_⟩
        obtain ⟨W2, X2⟩ := W1.made (o1 := .own x) (o2 := .ins C.M dx (mF (reply kd m))) nx nd
        refine ⟨_, x, dx, reply kd m, W2, rfl, W1.new nx, upd_same, ?_, fun H3 W3 X3 => ?_⟩
        · have := Z.ai
          show v.s.air.length < 2000000
          omega
        · rw [doSteps_nil] at k
          refine ⟨two_le, fun p hp => k.fin W3 (X1.trans (X3 H1 nx X2)) (Stays.put Stays.refl cont_msg_none) ?_ hp ?_⟩
          · rw [ekd]; rfl
          · show ([V.int 0, V.int (v.s.air.length : Nat)] : List V) = List.map V.int (0 :: hearOk v.s (Vbexac.send { v.s with armed := a } _))
            unfold hearOk
            rw [if_neg (by show ¬ (v.s.air ++ [_]).length = _; rw [List.length_append, List.length_singleton]; omega)]
            show _ = [V.int 0, V.int (((v.s.air ++ [_]).length : Nat) - 1 : Int)]
            rw [List.length_append, List.length_singleton]
            have : (((v.s.air.length + 1 : Nat) : Int) - 1) = (v.s.air.length : Int) := by omega
            rw [this]
      refine ite2 (fun h => ?_) (fun h => ?_)
      · refine fin 3 ?_ _ rfl
        rw [if_pos]
        refine is_iff.mpr (markN_inj ?_)
        have := of_decide_eq_true h
        simp at this
        show Vbexac.markNumber e.mark = 7
        omega
      · refine fin 1 ?_ _ rfl
        rw [if_neg]
        intro z
        exact h (decide_eq_true (by rw [is_iff.mp z]; rfl))
    · rw [hearSteps_none hk hf] at k
      refine ⟨_, rfl, _, rfl, ?_⟩
      refine iteT ?_
      refine cutStepS (n := 0) W Ext.refl rfl Stays.refl k fun a H1 W1 X1 k => ?_
      refine ⟨_, rfl, _, _, _, rfl, W1.party hto, rfl, _, rfl, _, _, _, _, rfl, W1.msg hm, rfl, _, rfl, _, _, _, _, rfl, W1.msg hm, rfl, _, rfl, _, _, _, _, rfl, W1.msg hm, rfl, _, rfl, _, rfl, _, _, _, _, rfl, W1.msg hm, rfl, ?_⟩
      refine ⟨_, m.to, heard m mk, W1, rfl, hto, line_lt (Nat.le_trans (Z.en m.to) (by decide)), fun y dy H2 W2 X2 => ?_⟩
      refine cutStepS (n := 0) W2 (X1.trans X2) rfl (Stays.put Stays.refl cont_entry_none) k fun b H3 W3 X3 k => ?_
      have g3 := write_get (s := { v.s with armed := a }) (e := heard m mk) hto
      refine ⟨_, rfl, _, _, _, _, rfl, W3.entry g3, rfl, rfl, _, rfl, ?_⟩
      have fin : ∀ kd : Nat, kd = (if Vbexac.is mk .refused = true then 3 else 1) → ∀ (σ : List (Option V)) (z1 z2 z3 : Option V), σ = [some (V.ref (v.G .world)), some (V.ref (v.G (.msg n))), z1, z2, z3, some (V.int kd)] →
          tRet (tLst (tCons (tC (.int 0)) (tCons (tMeth C.W "put_message" (sp_World_put_message C) [] E0 (tVar 0) (tCons (tCall (sp_answer_to C) [] E0 (tCons (tVar 1) (tCons (tVar 5) tNil))) tNil)) tNil))) { nx := fun _ H' => Q .non H', rt := Q } σ H3 := by
        rintro kd ekd σ z1 z2 z3 rfl
        refine ⟨_, rfl, _, _, _, rfl, W3.world, rfl, _, rfl, _, rfl, _, n, kd, m, W3, rfl, hm, fun x dx nx nd => ?_⟩
        obtain ⟨W4, X4⟩ := W3.made (o1 := .own x) (o2 := .ins C.M dx (mF (reply kd m))) nx nd
        refine ⟨_, x, dx, reply kd m, W4, rfl, W3.new nx, upd_same, ?_, fun H5 W5 X5 => ?_⟩
        · have := Z.ai
          show v.s.air.length < 2000000
          omega
        · rw [doSteps_nil] at k
          refine ⟨two_le, fun p hp => k.fin W5 (X3.trans (X5 H3 nx X4)) (Stays.put (Stays.put Stays.refl cont_entry_none).st cont_msg_none) ?_ hp ?_⟩
          · rw [ekd]; rfl
          · show ([V.int 0, V.int (v.s.air.length : Nat)] : List V) = List.map V.int (0 :: hearOk v.s (Vbexac.send { Vbexac.write { v.s with armed := a } m.to (heard m mk) with armed := b } _))
            unfold hearOk
            rw [if_neg (by show ¬ (v.s.air ++ [_]).length = _; rw [List.length_append, List.length_singleton]; omega)]
            show _ = [V.int 0, V.int (((v.s.air ++ [_]).length : Nat) - 1 : Int)]
            rw [List.length_append, List.length_singleton]
            have : (((v.s.air.length + 1 : Nat) : Int) - 1) = (v.s.air.length : Int) := by omega
            rw [this]
      refine ite2 (fun h => ?_) (fun h => ?_)
      · refine fin 3 ?_ _ _ _ _ rfl
        rw [if_pos]
        refine is_iff.mpr (markN_inj ?_)
        have := of_decide_eq_true h
        simp at this
        show Vbexac.markNumber mk = 7
        have q : (Vbexac.markNumber (heard m mk).mark : Int) = 7 := this
        have q2 : (heard m mk).mark = mk := rfl
        rw [q2] at q
        omega
      · refine fin 1 ?_ _ _ _ _ rfl
        rw [if_neg]
        intro z
        exact h (decide_eq_true (by rw [show (heard m mk).mark = mk from rfl, is_iff.mp z]; rfl))
theorem ok_hear_answer {f : Addr} {fd : FuncData} (F : Fun K "hear_answer" "hear_answer" s_hear_answer f fd) (T : Txt K mg C)
    (F_Party_entry_marked : Mt P w K mg base C.P "entry_marked" 2 ["self", "number", "mark"] (sp_Party_entry_marked C))
    (F_World_cuts_off : Mt P w K mg base C.W "cuts_off" 1 ["self"] (sp_World_cuts_off C)) : FnOk P w K mg base CX0 3 f fd ["world", "message", "mark"] (sp_hear_answer C) := by
  refine F.ok sc_hear_answer (fun vs H Q E h => ?_) (fun cdv A outer s H vs Q E hr h => ?_)
  · obtain ⟨v, n, m, mk, W, rfl, hm, hk, hto, I, k⟩ := h
    rfl
  · obtain ⟨v, n, m, mk, W, rfl, hm, hk, hto, I, k⟩ := h
    refine ⟨_, (pss_cons (ps_set (i := 3) sc_hear_answer.nd rfl (Or.inl rfl) (pe_mt F_Party_entry_marked (hr.mono (by decide)) (pe_ix ix_seq (pf T.cW (T.nW _ (by decide +kernel)) (pv 0)) (pf T.cM (T.nM _ (by decide +kernel)) (pv 1)) (fun _ _ => rfl)) (pa_cons (pf T.cM (T.nM _ (by decide +kernel)) (pv 1)) (pa_cons (pe_gc T.g_GIVEN) pa_nil))))
      (pss_cons (ps_if (pw_and (pt_cmp (pc_notN (pv 3))) (pw_and1 (pt_cmpR op_eq (pf T.cE (T.nE _ (by decide +kernel)) (pv 3)) (pf T.cM (T.nM _ (by decide +kernel)) (pv 1)) (nomark _)))).pt (pss_cons (ps_if (pt_call (pe_mt0 F_World_cuts_off (hr.mono (by decide)) (pv 0))) (pss_one (ps_ret (pe_lst (pa_cons (pe_gc T.g_CUT_OFF) pa_nil)))) pss_nil)
      (pss_one (psf T.cE (T.nE _ (by decide +kernel)) (pv 3) (pv 2)))) pss_nil)
      (pss_one (ps_ret (pe_lst (pa_cons pe_int (pa_cons (pe_gc T.g_NO_ANSWER) pa_nil))))))), ?_⟩
    have ok0 : ∀ t : Vbexac.St, t.air = v.s.air → hearOk v.s t = [-1] := fun t ht => by unfold hearOk; rw [if_pos (by rw [ht])]
    have skip : (∀ e, Vbexac.entry v.s m.to m.id = some e → ¬ (e.mark = .out ∧ e.other = m.sender)) → ∀ {p : Addr}, H p = none → Q (.ref p) (upd H p (.lst [.int 0, .int (-1)])) := fun hn p hp => by
      rw [hearSteps_no hk hn, doSteps_nil, ok0 _ rfl] at k
      exact k.fin W Ext.refl Stays.refl rfl hp rfl
    refine ⟨_, rfl, _, _, _, _, rfl, W.world, rfl, _, rfl, _, _, _, _, rfl, W.msg hm, rfl, .inl ⟨_, _, _, _, rfl, rfl, SqL.of W.lp, atI_nat (refsV_get hto), ?_⟩⟩
    refine ⟨_, _, _, rfl, W.party hto, rfl, _, rfl, _, _, _, _, rfl, W.msg hm, rfl, ?_⟩
    refine ⟨v, m.to, m.id, .out, W, rfl, hto, fun j e he hf hmk => ?_, fun hno => ?_⟩
    · refine ⟨_, rfl, _, rfl, ?_⟩
      refine iteT ⟨_, rfl, _, _, _, _, rfl, W.entry he, rfl, _, rfl, _, _, _, _, rfl, W.msg hm, rfl, rfl, _, rfl, ?_⟩
      refine ite2 (fun h => ?_) (fun h => ?_)
      · have ho : e.other = m.sender := by
          have := of_decide_eq_true h
          simp at this
          omega
        rw [hearSteps_yes hk hf hmk ho] at k
        refine cutStepS (n := 0) W Ext.refl rfl Stays.refl k fun a H1 W1 X1 k => ?_
        rw [← (entry_mem hf).2] at k
        obtain ⟨W2, X2⟩ := W1.mark (m := mk) (I.uq m.to) he
        refine ⟨_, rfl, _, rfl, _, _, _, _, rfl, W1.entry he, (by show 5 < 1000; decide), rfl, two_le, fun p hp => ?_⟩
        rw [doSteps_nil, ok0 (Vbexac.mark { v.s with armed := a } m.to e.id mk) rfl] at k
        exact k.fin W2 (X1.trans X2) Stays.refl rfl hp rfl
      · refine ⟨two_le, fun p hp => skip (fun e' he' z => ?_) hp⟩
        rw [hf] at he'
        cases he'
        exact h (decide_eq_true (by rw [z.2]))
    · refine ⟨_, rfl, _, rfl, ?_⟩
      refine iteF ?_
      refine iteF ?_
      exact ⟨two_le, fun p hp => skip (fun e he z => hno e he z.1) hp⟩
theorem ok_hear_message {f : Addr} {fd : FuncData} (F : Fun K "hear_message" "hear_message" s_hear_message f fd) (T : Txt K mg C)
    (F_hear_and_answer : Fn P w K mg base "hear_and_answer" 4 ["world", "message", "mark"] (sp_hear_and_answer C))
    (F_hear_answer : Fn P w K mg base "hear_answer" 3 ["world", "message", "mark"] (sp_hear_answer C)) : FnOk P w K mg base CX0 5 f fd ["world", "message"] (sp_hear_message C) := by
  refine F.ok sc_hear_message (fun vs H Q E h => ?_) (fun cdv A outer s H vs Q E hr h => ?_)
  · obtain ⟨v, n, m, W, rfl, hm, I, Z, k⟩ := h
    rfl
  · obtain ⟨v, n, m, W, rfl, hm, I, Z, k⟩ := h
    refine ⟨_, (pss_cons (ps_if (pt_cmpR op_eq (pf T.cM (T.nM _ (by decide +kernel)) (pv 1)) (pe_gc T.g_KIND_GIFT) (nomark _)) (pss_one (ps_ret (pe_fn F_hear_and_answer (hr.mono (by decide)) (pa_cons (pv 0) (pa_cons (pv 1) (pa_cons (pe_gc T.g_HELD) pa_nil)))))) pss_nil)
      (pss_cons (ps_if (pt_cmpR op_eq (pf T.cM (T.nM _ (by decide +kernel)) (pv 1)) (pe_gc T.g_KIND_ASK) (nomark _)) (pss_one (ps_ret (pe_fn F_hear_and_answer (hr.mono (by decide)) (pa_cons (pv 0) (pa_cons (pv 1) (pa_cons (pe_gc T.g_REFUSED) pa_nil)))))) pss_nil)
      (pss_cons (ps_if (pt_cmpR op_eq (pf T.cM (T.nM _ (by decide +kernel)) (pv 1)) (pe_gc T.g_KIND_GOT) (nomark _)) (pss_one (ps_ret (pe_fn F_hear_answer (hr.mono (by decide)) (pa_cons (pv 0) (pa_cons (pv 1) (pa_cons (pe_gc T.g_SETTLED) pa_nil)))))) pss_nil)
      (pss_one (ps_ret (pe_fn F_hear_answer (hr.mono (by decide)) (pa_cons (pv 0) (pa_cons (pv 1) (pa_cons (pe_gc T.g_HELD) pa_nil))))))))), ?_⟩
    have M := I.st.ms m (List.mem_of_getElem? hm)
    have kinds : m.kind = 0 ∨ m.kind = 2 ∨ m.kind = 1 ∨ m.kind = 3 := by
      rcases M.ok with ⟨z | z, _⟩ | ⟨z, _⟩ | ⟨z, _⟩
      · exact .inl z
      · exact .inr (.inl z)
      · exact .inr (.inr (.inl z))
      · exact .inr (.inr (.inr z))
    refine ⟨_, rfl, _, _, _, _, rfl, W.msg hm, rfl, rfl, _, rfl, ?_⟩
    refine ite2 (fun h => ?_) (fun h => ?_)
    · have kd : m.kind = 0 := by
        have := of_decide_eq_true h
        simp at this
        omega
      exact ⟨_, rfl, _, rfl, v, n, m, .held, W, rfl, hm, .inl ⟨kd, rfl⟩, M.to, Z, k⟩
    have k0 : m.kind ≠ 0 := fun z => h (decide_eq_true (by rw [z]; rfl))
    refine ⟨_, rfl, _, _, _, _, rfl, W.msg hm, rfl, rfl, _, rfl, ?_⟩
    refine ite2 (fun h => ?_) (fun h => ?_)
    · have kd : m.kind = 2 := by
        have := of_decide_eq_true h
        simp at this
        omega
      exact ⟨_, rfl, _, rfl, v, n, m, .refused, W, rfl, hm, .inr ⟨kd, rfl⟩, M.to, Z, k⟩
    have k2 : m.kind ≠ 2 := fun z => h (decide_eq_true (by rw [z]; rfl))
    refine ⟨_, rfl, _, _, _, _, rfl, W.msg hm, rfl, rfl, _, rfl, ?_⟩
    refine ite2 (fun h => ?_) (fun h => ?_)
    · have kd : m.kind = 1 := by
        have := of_decide_eq_true h
        simp at this
        omega
      exact ⟨_, rfl, _, rfl, v, n, m, .gone, W, rfl, hm, .inl ⟨kd, rfl⟩, M.to, I.st, k⟩
    have k1 : m.kind ≠ 1 := fun z => h (decide_eq_true (by rw [z]; rfl))
    have kd : m.kind = 3 := by omega
    exact ⟨_, rfl, _, rfl, v, n, m, .held, W, rfl, hm, .inr ⟨kd, rfl⟩, M.to, I.st, k⟩
theorem ok_call_hear {f : Addr} {fd : FuncData} (F : Fun K "call_hear" "call_hear" s_call_hear f fd) (T : Txt K mg C)
    (F_air_is_full : Fn P w K mg base "air_is_full" 1 ["world"] (sp_air_is_full C))
    (F_hear_message : Fn P w K mg base "hear_message" 5 ["world", "message"] (sp_hear_message C)) : FnOk P w K mg base CX0 6 f fd ["world", "m"] (sp_call_hear C) := by
  refine F.ok sc_call_hear (fun vs H Q E h => ?_) (fun cdv A outer s H vs Q E hr h => ?_)
  · obtain ⟨v, n, W, rfl, I, Z, k⟩ := h
    rfl
  · obtain ⟨v, n, W, rfl, I, Z, k⟩ := h
    refine ⟨_, (pss_cons (ps_if (pt_cmpR op_ge (pv 1) (pe_callB call_len_seq (by rfl) T.b_len PySem.boot_len (pa_cons (pf T.cW (T.nW _ (by decide +kernel)) (pv 0)) pa_nil)) (nomark _)) (pss_one (ps_ret (pe_lst (pa_cons pe_neg pa_nil)))) pss_nil)
      (pss_cons (ps_if (pt_call (pe_fn F_air_is_full (hr.mono (by decide)) (pa_cons (pv 0) pa_nil))) (pss_one (ps_ret (pe_lst (pa_cons pe_neg pa_nil)))) pss_nil)
      (pss_one (ps_ret (pe_fn F_hear_message (hr.mono (by decide)) (pa_cons (pv 0) (pa_cons (pe_ix ix_seq (pf T.cW (T.nW _ (by decide +kernel)) (pv 0)) (pv 1) (fun _ _ => rfl)) pa_nil))))))), ?_⟩
    refine ⟨_, rfl, _, rfl, _, _, _, _, rfl, W.world, rfl, _, _, rfl, .inl (SqL.of W.lm), _, _, rfl, rfl, _, rfl, ?_⟩
    rw [refsV_len]
    refine ite2 (fun h => ?_) (fun h => ?_)
    · have h := of_decide_eq_true h
      rw [show Vbexac.act v.s (.hear n) = (v.s, [-4]) by unfold Vbexac.act; simp only [Int.toNat_natCast]; rw [List.getElem?_eq_none (by omega)]] at k
      exact ⟨one_le, fun p hp => k.fin W Ext.refl rfl rfl hp rfl⟩
    have hn : n < v.s.air.length := by
      have : ¬ (v.s.air.length : Int) ≤ (n : Int) := fun z => h (decide_eq_true z)
      omega
    obtain ⟨m, hm⟩ : ∃ m, v.s.air[n]? = some m := ⟨_, List.getElem?_eq_getElem hn⟩
    rw [show Vbexac.act v.s (.hear n) = if Vbexac.full v.s 1 = true then (v.s, [-7]) else Vbexac.doSteps v.s (Vbexac.hearSteps v.s m) (hearOk v.s) by unfold Vbexac.act; simp only [Int.toNat_natCast]; rw [hm]; rfl] at k
    refine ⟨_, rfl, v, W, rfl, _, rfl, ?_⟩
    refine ite2 (fun h2 => ?_) (fun h2 => ?_)
    · rw [if_pos h2] at k
      exact ⟨one_le, fun p hp => k.fin W Ext.refl rfl rfl hp rfl⟩
    rw [if_neg h2] at k
    exact ⟨_, rfl, _, rfl, _, _, _, _, rfl, W.world, rfl, _, rfl, .inl ⟨_, _, _, _, rfl, rfl, SqL.of W.lm, atI_nat (refsV_get hn), v, n, m, W, rfl, hm, I, Z.two, k.s⟩⟩
end
end RF
end
section
set_option linter.all false
set_option Elab.async false
set_option maxRecDepth 100000
set_option maxHeartbeats 4000000
namespace RF
open PySem PySem.Spec PyProof.Rows L2
/-- the mark behind a look -/
def byTin (s : Vbexac.St) (d : Nat) (e : Vbexac.Entry) : Vbexac.Mark :=
  if Vbexac.is e.mark .laying = true then (if (Vbexac.tin s d).laid.contains e.id then .held else .dead) else (if (Vbexac.tin s d).used.contains e.id then .used else .held)
def sp_mark_by_tin (C : Cs) : Sp := fun vs H Q _ => ∃ (v : Vw) (d i j : Nat) (e : Vbexac.Entry), At C v H ∧ vs = [.ref (v.G (.tin d)), .ref (v.G (.entry i j))] ∧ d < v.s.tins.length ∧ (Vbexac.paper v.s i).entries[j]? = some e ∧ Q (.int (Vbexac.markNumber (byTin v.s d e))) H
/-- entries with their places -/
def ents (s : Vbexac.St) (i : Nat) : List (Vbexac.Entry × Nat) := (Vbexac.paper s i).entries.zipIdx
def unf (d : Int) (x : Vbexac.Entry × Nat) : Bool := decide ((x.1.depot : Int) = d) && (Vbexac.is x.1.mark .laying || Vbexac.is x.1.mark .using)
def refE (v : Vw) (i : Nat) (l : List (Vbexac.Entry × Nat)) : List V := l.map fun x => V.ref (v.G (.entry i x.2))
def sp_unfinished_here (C : Cs) : Sp := fun vs H Q _ => ∃ (v : Vw) (i : Nat), At C v H ∧ vs = [.ref (v.G (.party i))] ∧ i < v.s.papers.length ∧ Small v.s ∧
  ∀ H' p, H p = none → (∀ b o, H b = some o → H' b = some o) → H' p = some (.lst (refE v i ((ents v.s i).filter (unf ((Vbexac.place v.s i : Int) - 1))))) → Q (.ref p) H'
section
variable {P : Program} {w : World} {K : PySem.W.Frag} {mg : Str → Option Value} {base : Heap} {C : Cs}
theorem nats_flat (l : List Nat) : (natsV l).all flatV = true := by unfold natsV; rw [List.all_map, List.all_eq_true]; intro x _; rfl
theorem filter_take_succ {α : Type} {p : α → Bool} {l : List α} {i : Nat} {x : α} (h : l[i]? = some x) : (l.take (i + 1)).filter p = (l.take i).filter p ++ (if p x = true then [x] else []) := by
  rw [List.take_add_one, h, List.filter_append]
  show _ ++ List.filter p [x] = _
  rw [List.filter_cons, List.filter_nil]
theorem ok_mark_by_tin {f : Addr} {fd : FuncData} (F : Fun K "mark_by_tin" "mark_by_tin" s_mark_by_tin f fd) (T : Txt K mg C) : FnOk P w K mg base CX0 1 f fd ["tin", "entry"] (sp_mark_by_tin C) := by
  refine F.ok sc_mark_by_tin (fun vs H Q E h => ?_) (fun cdv A outer s H vs Q E hr h => ?_)
  · obtain ⟨v, d, i, j, e, W, rfl, hd, he, k⟩ := h
    rfl
  · obtain ⟨v, d, i, j, e, W, rfl, hd, he, k⟩ := h
    refine ⟨_, (pss_cons (ps_if (pt_cmpR op_eq (pf T.cE (T.nE _ (by decide +kernel)) (pv 1)) (pe_gc T.g_BEING_LAID) (nomark _)) (pss_one (ps_ret (pe_ifExp (pt_cmpR op_in_seq (pf T.cE (T.nE _ (by decide +kernel)) (pv 1)) (pf T.cT (T.nT _ (by decide +kernel)) (pv 0)) (by rfl)) (pe_gc T.g_HELD) (pe_gc T.g_OVER)))) pss_nil)
      (pss_one (ps_ret (pe_ifExp (pt_cmpR op_in_seq (pf T.cE (T.nE _ (by decide +kernel)) (pv 1)) (pf T.cT (T.nT _ (by decide +kernel)) (pv 0)) (by rfl)) (pe_gc T.g_USED) (pe_gc T.g_HELD))))), ?_⟩
    refine ⟨_, rfl, _, _, _, _, rfl, W.entry he, rfl, rfl, _, rfl, ?_⟩
    refine ite2 (fun h => ?_) (fun h => ?_)
    · have hm : e.mark = .laying := by
        refine markN_inj ?_
        have := of_decide_eq_true h
        simp at this
        show Vbexac.markNumber e.mark = 1
        omega
      refine ⟨_, rfl, _, _, _, _, rfl, W.entry he, rfl, _, rfl, _, _, _, _, rfl, W.tin hd, rfl, _, _, rfl, .inl (SqL.of (W.laid hd)), rfl, nats_flat _, _, rfl, ?_⟩
      have e1 : byTin v.s d e = if (Vbexac.tin v.s d).laid.contains e.id then .held else .dead := by unfold byTin; rw [if_pos (is_iff.mpr hm)]
      rw [e1] at k
      show if inV (.int e.id) (natsV (Vbexac.tin v.s d).laid) = true then _ else _
      rw [inM_nats]
      refine ite2 (fun h => ?_) (fun h => ?_)
      · rw [if_pos h] at k; exact k
      · rw [if_neg h] at k; exact k
    · have hm : ¬ Vbexac.is e.mark .laying = true := fun z => h (decide_eq_true (by rw [is_iff.mp z]; rfl))
      refine ⟨_, rfl, _, _, _, _, rfl, W.entry he, rfl, _, rfl, _, _, _, _, rfl, W.tin hd, rfl, _, _, rfl, .inl (SqL.of (W.used hd)), rfl, nats_flat _, _, rfl, ?_⟩
      have e1 : byTin v.s d e = if (Vbexac.tin v.s d).used.contains e.id then .used else .held := by unfold byTin; rw [if_neg hm]
      rw [e1] at k
      show if inV (.int e.id) (natsV (Vbexac.tin v.s d).used) = true then _ else _
      rw [inM_nats]
      refine ite2 (fun h => ?_) (fun h => ?_)
      · rw [if_pos h] at k; exact k
      · rw [if_neg h] at k; exact k
theorem ok_unfinished_here {f : Addr} {fd : FuncData} (F : Fun K "unfinished_here" "unfinished_here" s_unfinished_here f fd) (T : Txt K mg C) : FnOk P w K mg base CX0 1 f fd ["party"] (sp_unfinished_here C) := by
  refine F.ok sc_unfinished_here (fun vs H Q E h => ?_) (fun cdv A outer s H vs Q E hr h => ?_)
  · obtain ⟨v, i, W, rfl, hi, Z, k⟩ := h
    rfl
  · obtain ⟨v, i, W, rfl, hi, Z, k⟩ := h
    refine ⟨_, (pss_cons (ps_setLc (i := 1) (own := [("entry", 2)]) rfl sc_unfinished_here.nd rfl rfl (sw_true rfl rfl rfl rfl) (pi_list (pf T.cP (T.nP _ (by decide +kernel)) (pv 0))) (blkOk_by (by rfl)) (fun _ _ _ _ _ => (pg_name (i := 2) sc_unfinished_here.nd rfl (Or.inl rfl))) (fun _ _ _ _ _ => pts_one (pt_cmpR op_eq (pf T.cE (T.nE _ (by decide +kernel)) (pv 2)) (pf T.cP (T.nP _ (by decide +kernel)) (pv 0)) (nomark _))) (fun _ _ _ _ _ => (pv 2)))
      (pss_one (ps_ret (pe_lc (own := [("entry", 2)]) rfl sc_unfinished_here.nd (pi_list (pv 1)) (blkOk_by (by rfl)) (fun _ _ _ _ _ => (pg_name (i := 2) sc_unfinished_here.nd rfl (Or.inl rfl))) (fun _ _ _ _ _ => pts_one (pw_or (pt_cmpR op_eq (pf T.cE (T.nE _ (by decide +kernel)) (pv 2)) (pe_gc T.g_BEING_LAID) (nomark _)) (pw_or1 (pt_cmpR op_eq (pf T.cE (T.nE _ (by decide +kernel)) (pv 2)) (pe_gc T.g_BEING_USED) (nomark _)))).pt) (fun _ _ _ _ _ => (pv 2)))))), ?_⟩
    have lenE : (ents v.s i).length = (Vbexac.paper v.s i).entries.length := List.length_zipIdx
    have small : ∀ l : List (Vbexac.Entry × Nat), l.length ≤ (ents v.s i).length → (refE v i l).length < sizeLine := fun l hl => by
      unfold refE
      rw [List.length_map]
      exact line_lt (Nat.le_trans hl (by rw [lenE]; exact Nat.le_trans (Z.en i) (by decide)))
    refine ⟨_, rfl, _, _, _, _, rfl, W.party hi, rfl, _, rfl, ⟨_, SqL.of (W.elist hi)⟩, fun D hD => ?_⟩
    have nD := W.new hD
    refine lc_list (K := K) (a := v.G (.elist i)) (xs := refsV (Vbexac.paper v.s i).entries.length fun j => v.G (.entry i j))
      (fun j H' => H' = upd H D (.lst (refE v i (((ents v.s i).take j).filter fun x => decide ((x.1.depot : Int) = (Vbexac.place v.s i : Int) - 1))))) rfl (fun j H' _ e => by rw [e]; exact SqL.of ((W.other nD).elist hi)) ?_ ?_
    · rintro j y H' hy rfl
      obtain ⟨hj, rfl⟩ := refsV_of hy
      obtain ⟨e, he⟩ : ∃ e, (Vbexac.paper v.s i).entries[j]? = some e := ⟨_, List.getElem?_eq_getElem hj⟩
      have hx : (ents v.s i)[j]? = some (e, j) := by
        unfold ents
        rw [List.getElem?_zipIdx, he]
        simp
      have W' := W.other (o := .lst (refE v i (((ents v.s i).take j).filter fun x => decide ((x.1.depot : Int) = (Vbexac.place v.s i : Int) - 1)))) nD
      refine ⟨rfl, ?_⟩
      refine ⟨_, rfl, _, _, _, _, rfl, W'.entry he, rfl, _, rfl, _, _, _, _, rfl, W'.party hi, rfl, rfl, _, rfl, ?_⟩
      refine ite2 (fun h => ?_) (fun h => ?_)
      · refine ⟨_, rfl, _, upd_same, small _ (Nat.le_trans (List.length_filter_le _ _) (by rw [List.length_take]; omega)), ?_⟩
        rw [upd_upd, filter_take_succ hx, if_pos (by
          have := of_decide_eq_true h
          simp at this
          exact decide_eq_true this)]
        unfold refE
        rw [List.map_append]
        rfl
      · rw [filter_take_succ hx, if_neg (by
          intro z
          have := of_decide_eq_true z
          exact h (decide_eq_true (by rw [this]))), List.append_nil]
    · rintro H' rfl
      rw [refsV_len]
      have take_all : (ents v.s i).take (Vbexac.paper v.s i).entries.length = ents v.s i := by rw [← lenE, List.take_length]
      rw [take_all]
      have W1 := W.other (o := .lst (refE v i ((ents v.s i).filter fun x => decide ((x.1.depot : Int) = (Vbexac.place v.s i : Int) - 1)))) nD
      generalize hL : (ents v.s i).filter (fun x => decide ((x.1.depot : Int) = (Vbexac.place v.s i : Int) - 1)) = L at W1
      have lenL : L.length ≤ (ents v.s i).length := by rw [← hL]; exact List.length_filter_le _ _
      have memL : ∀ x ∈ L, (Vbexac.paper v.s i).entries[x.2]? = some x.1 := fun x hx => by
        rw [← hL] at hx
        have := (List.mem_filter.mp hx).1
        unfold ents at this
        rw [List.mem_zipIdx_iff_getElem?] at this
        exact this
      refine ⟨_, rfl, _, rfl, ⟨_, SqL.of upd_same⟩, fun D2 hD2 => ?_⟩
      have nD2 := W1.new hD2
      have ne : D ≠ D2 := ne_of_none upd_same hD2
      refine lc_list (K := K) (a := D) (xs := refE v i L)
        (fun j H' => H' = upd (upd H D (.lst (refE v i L))) D2 (.lst (refE v i ((L.take j).filter fun x => Vbexac.is x.1.mark .laying || Vbexac.is x.1.mark .using)))) rfl (fun j H' _ e => by rw [e]; exact SqL.of (by rw [upd_ne ne, upd_same])) ?_ ?_
      · rintro j y H' hy rfl
        obtain ⟨x, hx, rfl⟩ : ∃ x, L[j]? = some x ∧ y = V.ref (v.G (.entry i x.2)) := by
          unfold refE at hy
          rw [List.getElem?_map] at hy
          cases q : L[j]? with
          | none => rw [q] at hy; cases hy
          | some x => rw [q] at hy; exact ⟨x, rfl, (Option.some.inj hy).symm⟩
        have he := memL x (List.mem_of_getElem? hx)
        have W' := W1.other (o := .lst (refE v i ((L.take j).filter fun x => Vbexac.is x.1.mark .laying || Vbexac.is x.1.mark .using))) nD2
        have eqm : ∀ (m : Vbexac.Mark) (n : Int), n = (Vbexac.markNumber m : Int) → (decide (V.int (Vbexac.markNumber x.1.mark) = V.int n) = true ↔ Vbexac.is x.1.mark m = true) := fun m n en => by
          rw [decide_eq_true_iff, en, is_iff]
          constructor
          · intro z
            injection z with z
            exact markN_inj (by omega)
          · intro z
            rw [z]
        have yes : (Vbexac.is x.1.mark .laying || Vbexac.is x.1.mark .using) = true → ∃ acc, upd (upd H D (.lst (refE v i L))) D2 (.lst (refE v i ((L.take j).filter fun x => Vbexac.is x.1.mark .laying || Vbexac.is x.1.mark .using))) D2 = some (.lst acc) ∧ acc.length < sizeLine ∧ upd (upd (upd H D (.lst (refE v i L))) D2 (.lst (refE v i ((L.take j).filter fun x => Vbexac.is x.1.mark .laying || Vbexac.is x.1.mark .using)))) D2 (.lst (acc ++ [V.ref (v.G (.entry i x.2))])) = upd (upd H D (.lst (refE v i L))) D2 (.lst (refE v i ((L.take (j + 1)).filter fun x => Vbexac.is x.1.mark .laying || Vbexac.is x.1.mark .using))) := fun hyes => by
          refine ⟨_, upd_same, small _ (Nat.le_trans (List.length_filter_le _ _) (by rw [List.length_take]; omega)), ?_⟩
          rw [upd_upd, filter_take_succ hx, if_pos hyes]
          unfold refE
          rw [List.map_append]
          rfl
        refine ⟨rfl, ?_⟩
        refine ⟨_, rfl, _, _, _, _, rfl, W'.entry he, rfl, rfl, _, rfl, ?_⟩
        refine ite2 (fun h => ?_) (fun h => ?_)
        · exact iteT ⟨_, rfl, yes (by rw [(eqm .laying 1 rfl).mp h]; rfl)⟩
        · refine ⟨_, rfl, _, _, _, _, rfl, W'.entry he, rfl, rfl, _, rfl, ?_⟩
          refine ite2 (fun h1 => ?_) (fun h1 => ?_)
          · exact ⟨_, rfl, yes (by rw [(eqm .using 4 rfl).mp h1, Bool.or_true])⟩
          · rw [filter_take_succ hx, if_neg (fun z => by
              rw [Bool.or_eq_true] at z
              exact z.elim (fun y => h ((eqm .laying 1 rfl).mpr y)) (fun y => h1 ((eqm .using 4 rfl).mpr y))), List.append_nil]
      · rintro H' rfl
        have e1 : (refE v i L).length = L.length := by unfold refE; rw [List.length_map]
        rw [e1, List.take_length]
        have hp0 : H D2 = none := by
          have := hD2
          rw [upd_ne (Ne.symm ne)] at this
          exact this
        refine k _ D2 hp0 (fun b o hb => by rw [upd_ne (ne_of_none hb hp0), upd_ne (ne_of_none hb hD)]; exact hb) ?_
        rw [upd_same, ← hL, List.filter_filter]
        have : (fun x : Vbexac.Entry × Nat => (Vbexac.is x.1.mark .laying || Vbexac.is x.1.mark .using) && decide ((x.1.depot : Int) = (Vbexac.place v.s i : Int) - 1)) = unf ((Vbexac.place v.s i : Int) - 1) := by
          funext x
          unfold unf
          rw [Bool.and_comm]
        rw [this]
end
end RF
end
section
set_option linter.all false
set_option Elab.async false
set_option maxRecDepth 100000
set_option maxHeartbeats 4000000
namespace RF
open PySem PySem.Spec PyProof.Rows L2
theorem Inv.look1 {t : Vbexac.St} (I : Inv t) {p : Nat} {e : Vbexac.Entry} (h : e ∈ (Vbexac.paper t p).entries) (hm : e.mark = .laying ∨ e.mark = .using) : Inv (Vbexac.mark t p e.id (byTin t e.depot e)) := by
  unfold byTin
  by_cases h1 : Vbexac.is e.mark .laying = true
  · rw [if_pos h1]
    split
    · rename_i z; exact I.lay3 h (is_iff.mp h1) (List.contains_iff_mem.mp z)
    · rename_i z; exact I.lay3' h (is_iff.mp h1) (fun y => z (List.contains_iff_mem.mpr y))
  · rw [if_neg h1]
    have h2 : e.mark = .using := hm.resolve_left fun z => h1 (is_iff.mpr z)
    split
    · rename_i z; exact I.use3 h h2 (List.contains_iff_mem.mp z)
    · rename_i z; exact I.use3' h h2 (fun y => z (List.contains_iff_mem.mpr y))
/-- something that is not the world's, and was not there, is changed -/
theorem Ext.side {C : Cs} {v v' : Vw} {H H' : Hp} {t : Addr} {o : HO} (X : Ext C v H v' H') (h : H t = none) : Ext C v H v' (upd H' t o) :=
  ⟨fun b u hb hf => by rw [upd_ne (ne_of_none hb h)]; exact X.keep b u hb hf, X.grow, fun b hb => X.live b (upd_none hb)⟩
theorem cutStep2 {C : Cs} {v v0 : Vw} {H H0 : Hp} {n : Nat} {σ : L2.St} {D : Ends} {rest : TS} {f : Vbexac.St → Vbexac.St} {r : List (Vbexac.St → Vbexac.St)} {ok : Vbexac.St → List Int} (W : At C v H) (X : Ext C v0 H0 v H) (hn : σ[n]? = some (some (.ref (v.G .world)))) (hw : v.G .world = v0.G .world)
    (k : Done C v0 H0 (Vbexac.doSteps v.s (f :: r) ok) D.rt) (go : ∀ a H', At C { v with s := { v.s with armed := a } } H' → Ext C v H { v with s := { v.s with armed := a } } H' → Done C v0 H0 (Vbexac.doSteps (f { v.s with armed := a }) r ok) D.rt → rest D σ H') :
    tSeq (tIfS (tB (tMeth C.W "cuts_off" (sp_World_cuts_off C) [] E0 (tVar n) tNil)) (tRet (tLst (tCons (tC (.int 1)) tNil))) tNext) rest D σ H := by
  refine ⟨_, hn, _, _, _, rfl, W.world, rfl, v, W, rfl, fun H1 W1 X1 => ⟨_, rfl, ?_⟩⟩
  rw [doSteps_cons] at k
  refine ite2 (fun c1 => ?_) (fun c1 => ?_)
  · rw [if_pos c1] at k
    exact ⟨by show 1 ≤ sizeLine; decide, fun p hp => k.fin W1 (X.trans X1) hw rfl hp rfl⟩
  · rw [if_neg c1] at k
    obtain ⟨a, ea⟩ := cut_eq v.s
    rw [ea] at W1 X1 k
    exact go a H1 W1 X1 k
theorem byTin_congr {s t : Vbexac.St} {d : Nat} (h : Vbexac.tin s d = Vbexac.tin t d) (e : Vbexac.Entry) : byTin s d e = byTin t d e := by unfold byTin; rw [h]
theorem fm_congr {α β : Type} {f g : α → List β} : ∀ {l : List α}, (∀ x ∈ l, f x = g x) → l.flatMap f = l.flatMap g
  | [], _ => rfl
  | x :: r, h => by rw [List.flatMap_cons, List.flatMap_cons, h x (by simp), fm_congr fun y hy => h y (by simp [hy])]
def lookStep (i d : Nat) (e : Vbexac.Entry) : Vbexac.St → Vbexac.St := fun s => Vbexac.mark s i e.id (byTin s d e)
theorem resolve_eq {i d : Nat} {e : Vbexac.Entry} (hd : e.depot = d) (hm : e.mark = .laying ∨ e.mark = .using) : Vbexac.resolve i d e = [lookStep i d e] := by
  unfold Vbexac.resolve
  rw [if_neg (fun z => z hd)]
  by_cases h1 : Vbexac.is e.mark .laying = true
  · rw [if_pos h1]
    unfold lookStep byTin
    congr 1
    funext s
    rw [if_pos h1]
  · rw [if_neg h1]
    have h2 : e.mark = .using := hm.resolve_left fun z => h1 (is_iff.mpr z)
    rw [if_pos (is_iff.mpr h2)]
    unfold lookStep byTin
    congr 1
    funext s
    rw [if_neg h1]
def lookOk (s : Vbexac.St) (i : Nat) (l : List Vbexac.Entry) : Vbexac.St → List Int := fun t => Vbexac.listed (l.flatMap fun e => [(e.id : Int), ((Vbexac.entry t i e.id).map fun x => (Vbexac.markNumber x.mark : Int)).getD 0])
theorem zip_filter {p : Vbexac.Entry → Bool} : ∀ (l : List Vbexac.Entry) (n : Nat), ((l.zipIdx n).filter fun x => p x.1).map (·.1) = l.filter p
  | [], _ => rfl
  | e :: r, n => by
    rw [List.zipIdx_cons, List.filter_cons, List.filter_cons]
    split
    · rw [List.map_cons, zip_filter r]
    · exact zip_filter r _
theorem act_look {s : Vbexac.St} {i : Nat} (hi : i < s.papers.length) (hp : Vbexac.place s i ≠ 0) (U : List (Vbexac.Entry × Nat)) (hU : U = (ents s i).filter (unf ((Vbexac.place s i : Int) - 1))) :
    Vbexac.act s (.look i) = Vbexac.doSteps s (U.map fun x => lookStep i (Vbexac.place s i - 1) x.1) (lookOk s i (U.map (·.1))) := by
  have e1 : (Vbexac.paper s i).entries.filter (fun e => e.depot == Vbexac.place s i - 1 && (Vbexac.is e.mark .laying || Vbexac.is e.mark .using)) = U.map (·.1) := by
    rw [hU, ← zip_filter _ 0]
    show _ = ((ents s i).filter _).map _
    unfold ents
    congr 1
    congr 1
    funext x
    unfold unf
    congr 1
    rw [Bool.eq_iff_iff, beq_iff_eq, decide_eq_true_iff]
    omega
  have e2 : (U.map (·.1)).flatMap (Vbexac.resolve i (Vbexac.place s i - 1)) = U.map fun x => lookStep i (Vbexac.place s i - 1) x.1 := by
    have : ∀ x ∈ U, x.1.depot = Vbexac.place s i - 1 ∧ (x.1.mark = .laying ∨ x.1.mark = .using) := fun x hx => by
      rw [hU] at hx
      have := (List.mem_filter.mp hx).2
      unfold unf at this
      rw [Bool.and_eq_true, Bool.or_eq_true, is_iff, is_iff, decide_eq_true_iff] at this
      exact ⟨by omega, this.2⟩
    clear hU e1
    induction U with
    | nil => rfl
    | cons x r ih =>
      obtain ⟨a, b⟩ := this x (by simp)
      rw [List.map_cons, List.flatMap_cons, List.map_cons, resolve_eq a b, ih fun y hy => this y (by simp [hy])]
      rfl
  unfold Vbexac.act
  simp only []
  rw [ofParty_nat hi, if_neg hp, e1, e2]
  rfl
def sp_call_look (C : Cs) : Sp := fun vs H Q _ => ∃ (v : Vw) (i : Nat), At C v H ∧ vs = [.ref (v.G .world), .ref (v.G (.party i))] ∧ i < v.s.papers.length ∧ Inv v.s ∧ Small v.s ∧ Done C v H (Vbexac.act v.s (.look i)) Q
/-- what a look tells -/
def tells (s : Vbexac.St) (d : Nat) (l : List (Vbexac.Entry × Nat)) : List Int := l.flatMap fun x => [(x.1.id : Int), (Vbexac.markNumber (byTin s d x.1) : Int)]
theorem tells_len (s : Vbexac.St) (d : Nat) : ∀ l : List (Vbexac.Entry × Nat), (tells s d l).length = 2 * l.length
  | [] => rfl
  | x :: r => by
    have := tells_len s d r
    unfold tells at this ⊢
    rw [List.flatMap_cons, List.length_append, this]
    show 2 + 2 * r.length = 2 * (r.length + 1)
    omega
section
variable {P : Program} {w : World} {K : PySem.W.Frag} {mg : Str → Option Value} {base : Heap} {C : Cs}
theorem ok_call_look {f : Addr} {fd : FuncData} (F : Fun K "call_look" "call_look" s_call_look f fd) (T : Txt K mg C)
    (F_unfinished_here : Fn P w K mg base "unfinished_here" 1 ["party"] (sp_unfinished_here C))
    (F_World_cuts_off : Mt P w K mg base C.W "cuts_off" 1 ["self"] (sp_World_cuts_off C))
    (F_mark_by_tin : Fn P w K mg base "mark_by_tin" 1 ["tin", "entry"] (sp_mark_by_tin C)) : FnOk P w K mg base CX0 2 f fd ["world", "party"] (sp_call_look C) := by
  refine F.ok sc_call_look (fun vs H Q E h => ?_) (fun cdv A outer s H vs Q E hr h => ?_)
  · obtain ⟨v, i, W, rfl, hi, I, Z, k⟩ := h
    rfl
  · obtain ⟨v, i, W, rfl, hi, I, Z, k⟩ := h
    refine ⟨_, (pss_cons (ps_if (pt_cmpR op_eq (pf T.cP (T.nP _ (by decide +kernel)) (pv 1)) (pe_gc T.g_AWAY) (nomark _)) (pss_one (ps_ret (pe_lst (pa_cons pe_neg pa_nil)))) pss_nil)
      (pss_cons (ps_set (i := 2) sc_call_look.nd rfl (Or.inl rfl) (pe_ix ix_seq (pf T.cW (T.nW _ (by decide +kernel)) (pv 0)) (pf T.cP (T.nP _ (by decide +kernel)) (pv 1)) (fun _ _ => rfl)))
      (pss_cons (ps_set (i := 3) sc_call_look.nd rfl (Or.inl rfl) (pe_lst pa_nil))
      (pss_cons (ps_for PassesOwn.never rfl (pi_list (pe_fn F_unfinished_here (hr.mono (by decide)) (pa_cons (pv 1) pa_nil))) (pg_name (i := 4) sc_call_look.nd rfl (Or.inl rfl)) (pss_cons (ps_if (pt_call (pe_mt0 F_World_cuts_off (hr.mono (by decide)) (pv 0))) (pss_one (ps_ret (pe_lst (pa_cons (pe_gc T.g_CUT_OFF) pa_nil)))) pss_nil)
      (pss_cons (psf T.cE (T.nE _ (by decide +kernel)) (pv 4) (pe_fn F_mark_by_tin (hr.mono (by decide)) (pa_cons (pv 2) (pa_cons (pv 4) pa_nil))))
      (pss_cons (ps_expr (pe_bm PySem.F.plainAttrs_list PySem.F.slot_list_append PySem.F.type_list_append mt_append (pv 3) (pa_cons (pf T.cE (T.nE _ (by decide +kernel)) (pv 4)) pa_nil)))
      (pss_one (ps_expr (pe_bm PySem.F.plainAttrs_list PySem.F.slot_list_append PySem.F.type_list_append mt_append (pv 3) (pa_cons (pf T.cE (T.nE _ (by decide +kernel)) (pv 4)) pa_nil))))))))
      (pss_one (ps_ret (pe_op op_cat (pe_lst (pa_cons pe_int (pa_cons (pe_callB call_len_seq (by rfl) T.b_len PySem.boot_len (pa_cons (pv 3) pa_nil)) pa_nil))) (pv 3)))))))), ?_⟩
    refine ⟨_, rfl, _, _, _, _, rfl, W.party hi, rfl, rfl, _, rfl, ?_⟩
    refine ite2 (fun h => ?_) (fun h => ?_)
    · rw [show Vbexac.act v.s (.look i) = (v.s, [-4]) by
        unfold Vbexac.act
        simp only []
        rw [ofParty_nat hi, if_pos]
        have := of_decide_eq_true h
        simp at this
        omega] at k
      exact ⟨one_le, fun p hp => k.fin W Ext.refl rfl rfl hp rfl⟩
    have hpl : Vbexac.place v.s i ≠ 0 := fun z => h (decide_eq_true (by rw [z]; rfl))
    rw [act_look hi hpl _ rfl] at k
    have hple := I.place_le hpl
    obtain ⟨d, hd⟩ : ∃ d, Vbexac.place v.s i = d + 1 := ⟨Vbexac.place v.s i - 1, by omega⟩
    have hdI : ((Vbexac.place v.s i : Int) - 1) = (d : Int) := by omega
    have hdN : Vbexac.place v.s i - 1 = d := by omega
    have hdt : d < v.s.tins.length := by omega
    rw [hdN] at k
    generalize hU : (ents v.s i).filter (unf ((Vbexac.place v.s i : Int) - 1)) = U at k
    have memU : ∀ x ∈ U, (Vbexac.paper v.s i).entries[x.2]? = some x.1 ∧ x.1.depot = d ∧ (x.1.mark = .laying ∨ x.1.mark = .using) := fun x hx => by
      rw [← hU] at hx
      obtain ⟨h1, h2⟩ := List.mem_filter.mp hx
      unfold ents at h1
      rw [List.mem_zipIdx_iff_getElem?] at h1
      unfold unf at h2
      rw [Bool.and_eq_true, Bool.or_eq_true, is_iff, is_iff, decide_eq_true_iff] at h2
      exact ⟨h1, by omega, h2.2⟩
    have lenU : U.length ≤ 1000000 := by
      rw [← hU]
      exact Nat.le_trans (List.length_filter_le _ _) (by unfold ents; rw [List.length_zipIdx]; exact Z.en i)
    have apart : ∀ {a b : Nat} {x y : Vbexac.Entry × Nat}, U[a]? = some x → U[b]? = some y → a ≠ b → x.1.id ≠ y.1.id := fun {a b x y} ha hb hab z => by
      have hx := memU x (List.mem_of_getElem? ha)
      have hy := memU y (List.mem_of_getElem? hb)
      have ee : x.1 = y.1 := I.st.one (List.mem_of_getElem? hx.1) (List.mem_of_getElem? hy.1) z
      have jj : x.2 = y.2 := nd_ix (l := (Vbexac.paper v.s i).entries.map (·.id)) (I.st.uq i) (x := x.1.id) (by rw [List.getElem?_map, hx.1]; rfl) (by rw [List.getElem?_map, hy.1, z]; rfl)
      have nd : (ents v.s i).Nodup := by
        unfold ents
        have q : ((Vbexac.paper v.s i).entries.zipIdx.map Prod.snd).Nodup := by rw [List.zipIdx_map_snd]; exact List.nodup_range'
        exact List.Pairwise.imp (fun h z => h (by rw [z])) (List.pairwise_map.mp q)
      have ndU : U.Nodup := by rw [← hU]; exact List.Nodup.sublist List.filter_sublist nd
      exact hab (nd_ix ndU ha (by rw [hb, show y = x from Prod.ext ee.symm jj.symm]))
    refine ⟨_, rfl, _, _, _, _, rfl, W.world, rfl, _, rfl, _, _, _, _, rfl, W.party hi, rfl, .inl ⟨_, _, _, _, rfl, rfl, SqL.of W.lt, at_of (j := d) (v := V.ref (v.G (.tin d))) hdI (refsV_get hdt), ?_⟩⟩
    refine ⟨Nat.zero_le _, fun tl htl => ?_⟩
    have ntl := W.new htl
    have W1 := W.other (o := .lst []) ntl
    have X1 : Ext C v H v (upd H tl (.lst [])) := (W.laidNew htl).2
    refine ⟨_, rfl, v, i, W1, rfl, hi, Z, fun H2 p hp same hpl2 => ⟨_, rfl, ⟨_, SqL.of hpl2⟩, ?_⟩⟩
    rw [hU] at hpl2
    have np := W1.new hp
    have W2 : At C v H2 := W1.same fun b f => by
      obtain ⟨o, ho⟩ := W1.foot f
      rw [ho]; exact same b o ho
    have X2 : Ext C v (upd H tl (.lst [])) v H2 := ⟨fun b o hb _ => same b o hb, fun b f => .inl f, fun b hb => by
      cases q : upd H tl (.lst []) b with
      | none => rfl
      | some o => rw [same b o q] at hb; cases hb⟩
    have ht2 : H2 tl = some (.lst []) := same _ _ upd_same
    have ntp : tl ≠ p := ne_of_none upd_same hp
    refine for_list (K := K) (a := p) (xs := refE v i U) (fun n σ H' => ∃ (s' : Vbexac.St) (x : Option V), σ = [some (V.ref (v.G .world)), some (V.ref (v.G (.party i))), some (V.ref (v.G (.tin d))), some (V.ref tl), x] ∧ At C { v with s := s' } H' ∧ Ext C v H { v with s := s' } H' ∧ Inv s' ∧
        i < s'.papers.length ∧ d < s'.tins.length ∧ Vbexac.tin s' d = Vbexac.tin v.s d ∧ Done C v H (Vbexac.doSteps s' ((U.drop n).map fun x => lookStep i d x.1) (lookOk v.s i (U.map (·.1)))) Q ∧
        (∀ m x, U[m]? = some x → (Vbexac.paper s' i).entries[x.2]? = some (if m < n then { x.1 with mark := byTin v.s d x.1 } else x.1)) ∧ H' tl = some (.lst ((tells v.s d (U.take n)).map V.int)) ∧ H' p = some (.lst (refE v i U)) ∧ ¬ Foot C { v with s := s' } tl ∧ ¬ Foot C { v with s := s' } p)
      ⟨v.s, none, rfl, W2, X1.trans X2, I, hi, hdt, rfl, k, fun m x hx => by rw [if_neg (Nat.not_lt_zero _)]; exact (memU x (List.mem_of_getElem? hx)).1, ht2, hpl2, ntl, np⟩ (fun n σ H' _ hh => by
        obtain ⟨_, _, _, _, _, _, _, _, _, _, _, _, h1, _⟩ := hh
        exact SqL.of h1) ?_ ?_
    · rintro n y σ H' hy ⟨s', x0, rfl, W3, X3, I3, hi3, hd3, ht3, k3, en3, tl3, p3, nt3, np3⟩
      obtain ⟨x, hx, rfl⟩ : ∃ x, U[n]? = some x ∧ y = V.ref (v.G (.entry i x.2)) := by
        unfold refE at hy
        rw [List.getElem?_map] at hy
        cases q : U[n]? with
        | none => rw [q] at hy; cases hy
        | some x => rw [q] at hy; exact ⟨x, rfl, (Option.some.inj hy).symm⟩
      obtain ⟨_, xd, xm⟩ := memU x (List.mem_of_getElem? hx)
      have he := en3 n x hx
      rw [if_neg (Nat.lt_irrefl _)] at he
      have hn : n < U.length := (List.getElem?_eq_some_iff.mp hx).1
      have dr : U.drop n = x :: U.drop (n + 1) := by
        rw [List.drop_eq_getElem_cons hn]
        congr 1
        exact (List.getElem?_eq_some_iff.mp hx).2
      rw [dr, List.map_cons] at k3
      refine cutStep2 (n := 0) W3 X3 rfl rfl k3 fun a H4 W4 X4 k4 => ?_
      obtain ⟨tl4, nt4⟩ := X4.still tl3 nt3
      obtain ⟨p4, np4⟩ := X4.still p3 np3
      have bt : byTin { s' with armed := a } d x.1 = byTin v.s d x.1 := byTin_congr (s := { s' with armed := a }) ht3 _
      have I5 : Inv (Vbexac.mark { s' with armed := a } i x.1.id (byTin { s' with armed := a } d x.1)) := by
        have := (I3.armed a).look1 (e := x.1) (List.mem_of_getElem? he) xm
        rw [xd] at this
        exact this
      obtain ⟨W5, X5⟩ := W4.mark (m := byTin { s' with armed := a } d x.1) ((I3.armed a).st.uq i) he
      have he5 := mark_at (s := { s' with armed := a }) (m := byTin { s' with armed := a } d x.1) he
      refine ⟨_, rfl, _, rfl, ⟨_, d, i, x.2, x.1, W4, rfl, hd3, he, ?_⟩⟩
      refine ⟨_, rfl, _, _, _, _, rfl, W4.entry he, (by show 5 < 1000; decide), rfl, ?_⟩
      obtain ⟨tl5, nt5⟩ := X5.still tl4 nt4
      obtain ⟨p5, np5⟩ := X5.still p4 np4
      have small : ∀ m : Nat, m ≤ U.length → ((tells v.s d (U.take m)).map V.int).length + 1 < sizeLine := fun m hm => by
        rw [List.length_map, tells_len, List.length_take]
        exact Nat.lt_of_le_of_lt (show 2 * min m U.length + 1 ≤ 3000000 by omega) (by decide)
      refine ⟨_, rfl, .inl ⟨rfl, _, SqL.of tl5⟩, _, rfl, _, _, _, _, rfl, W5.entry he5, rfl, _, _, _, rfl, rfl, tl5, Nat.lt_of_succ_lt (small n (Nat.le_of_lt hn)), ?_⟩
      have W6 := W5.other (o := .lst ((tells v.s d (U.take n)).map V.int ++ [V.int x.1.id])) nt5
      refine ⟨_, rfl, .inl ⟨rfl, _, SqL.of upd_same⟩, _, rfl, _, _, _, _, rfl, W6.entry he5, rfl, _, _, _, rfl, rfl, upd_same, by rw [List.length_append]; exact small n (Nat.le_of_lt hn), ?_⟩
      have W7 := W6.other (o := .lst ((tells v.s d (U.take n)).map V.int ++ [V.int x.1.id] ++ [V.int (Vbexac.markNumber (byTin { s' with armed := a } d x.1))])) nt5
      rw [upd_upd]
      rw [upd_upd] at W7
      refine ⟨_, some (V.ref (v.G (.entry i x.2))), rfl, W7, ?_, I5, by rw [mark_papers_len]; exact hi3, hd3, ht3, ?_, fun m y hUy => ?_, ?_, ?_, nt5, np5⟩
      · exact (X3.trans (X4.trans X5)).side htl
      · exact k4
      · rw [mark_get (s := { s' with armed := a }) (en3 m y hUy)]
        by_cases z : m = n
        · subst z
          rw [hx] at hUy
          cases hUy
          rw [if_neg (Nat.lt_irrefl _), if_pos (Nat.lt_succ_self _), up_at rfl, bt]
        · have ne := apart hUy hx z
          rw [up_same]
          · rcases Nat.lt_or_ge m n with q | q
            · rw [if_pos q, if_pos (by omega)]
            · rw [if_neg (by omega), if_neg (by omega)]
          · rintro ⟨_, q⟩
            split at q
            · exact ne q
            · exact ne q
      · rw [upd_same, bt, List.take_add_one, hx]
        unfold tells
        rw [List.flatMap_append, List.map_append, List.append_assoc]
        rfl
      · rw [upd_ne (Ne.symm ntp)]; exact p5
    · rintro σ H' ⟨s', x0, rfl, W3, X3, I3, hi3, hd3, ht3, k3, en3, tl3, p3, nt3, np3⟩
      have lr : (refE v i U).length = U.length := by unfold refE; rw [List.length_map]
      rw [lr] at k3 en3 tl3
      rw [List.take_length] at tl3
      rw [List.drop_length, List.map_nil, doSteps_nil] at k3
      have same_ : lookOk v.s i (U.map (·.1)) s' = Vbexac.listed (tells v.s d U) := by
        unfold lookOk
        congr 1
        rw [List.flatMap_map]
        unfold tells
        have : ∀ x ∈ U, ((Vbexac.entry s' i x.1.id).map fun x => (Vbexac.markNumber x.mark : Int)).getD 0 = (Vbexac.markNumber (byTin v.s d x.1) : Int) := fun x hx => by
          obtain ⟨m, hm, ex⟩ := List.mem_iff_getElem.mp hx
          have q := en3 m x (by rw [List.getElem?_eq_getElem hm, ex])
          rw [if_pos hm] at q
          have := I3.st.find (List.mem_of_getElem? q)
          rw [this]
          rfl
        exact fm_congr fun x hx => by rw [this x hx]
      rw [same_] at k3
      have hlen : ((tells v.s d U).map V.int).length ≤ 2000000 := by rw [List.length_map, tells_len]; omega
      refine ⟨_, rfl, _, _, rfl, .inl (SqL.of tl3), two_le, fun q hq => ?_⟩
      have ntq : tl ≠ q := ne_of_none tl3 hq
      obtain ⟨W4, X4⟩ := W3.laidNew (o := .lst [V.int 0, V.int (((tells v.s d U).map V.int).length : Nat)]) hq
      refine ⟨_, rfl, _, _, _, _, rfl, rfl, upd_same, by rw [upd_ne ntq]; exact tl3, ?_, fun r hr => ?_⟩
      · show 2 + ((tells v.s d U).map V.int).length ≤ sizeLine
        exact Nat.le_trans (show _ ≤ 3000000 by omega) (by decide)
      · refine k3.fin W4 (X3.trans X4) rfl rfl hr ?_
        unfold Vbexac.listed
        rw [List.length_map]
        rfl
end
end RF
end
section
set_option linter.all false
set_option Elab.async false
set_option maxRecDepth 100000
set_option maxHeartbeats 4000000
namespace RF
open PySem PySem.Spec PyProof.Rows L2
theorem upd_over {H : Hp} {p l : Addr} {o1 o2 o3 : HO} (h : l ≠ p) : upd (upd (upd H p o1) l o2) p o3 = upd (upd H l o2) p o3 := by
  funext b
  unfold upd
  by_cases z : b = p
  · rw [if_pos z, if_pos z]
  · rw [if_neg z, if_neg z, if_neg z]
def sp_Party___init__ (C : Cs) : Sp := fun vs H Q _ => ∃ (p dx : Addr) (w : Int), vs = [.ref p, .int w] ∧ H p = some (.ins C.P dx []) ∧ ∀ l, H l = none → Q .non (upd (upd H l (.lst [])) p (.ins C.P dx (pF w (-1) 0 l 0)))
def sp_Tin___init__ (C : Cs) : Sp := fun vs H Q _ => ∃ (p dx : Addr), vs = [.ref p] ∧ H p = some (.ins C.T dx []) ∧ ∀ l u, H l = none → H u = none → l ≠ u → Q .non (upd (upd (upd H l (.lst [])) u (.lst [])) p (.ins C.T dx (tF 0 l u)))
def sp_World___init__ (C : Cs) : Sp := fun vs H Q _ => ∃ (p dx : Addr), vs = [.ref p] ∧ H p = some (.ins C.W dx []) ∧ ∀ a b c, H a = none → H b = none → H c = none → a ≠ b → a ≠ c → b ≠ c → Q .non (upd (upd (upd (upd H a (.lst [])) b (.lst [])) c (.lst [])) p (.ins C.W dx (wF a b c (-1) 0)))
section
variable {P : Program} {w : World} {K : PySem.W.Frag} {mg : Str → Option Value} {base : Heap} {C : Cs}
theorem ok_Party___init__ {f : Addr} {fd : FuncData} (F : Fun K "__init__" "Party.__init__" s_Party___init__ f fd) (T : Txt K mg C) : FnOk P w K mg base CX0 1 f fd ["self", "who"] (sp_Party___init__ C) := by
  refine F.ok sc_Party___init__ (fun vs H Q E h => ?_) (fun cdv A outer s H vs Q E hr h => ?_)
  · obtain ⟨p, dx, wh, rfl, hp, k⟩ := h
    rfl
  · obtain ⟨p, dx, wh, rfl, hp, k⟩ := h
    refine ⟨_, (pss_cons (psf T.cP (T.nP _ (by decide +kernel)) (pv 0) (pv 1))
      (pss_cons (psf T.cP (T.nP _ (by decide +kernel)) (pv 0) (pe_gc T.g_AWAY))
      (pss_cons (psf T.cP (T.nP _ (by decide +kernel)) (pv 0) pe_int)
      (pss_cons (psf T.cP (T.nP _ (by decide +kernel)) (pv 0) (pe_lst pa_nil))
      (pss_one (psf T.cP (T.nP _ (by decide +kernel)) (pv 0) pe_int)))))), ?_⟩
    refine ⟨_, rfl, _, rfl, _, _, _, _, rfl, hp, (by show 0 < 1000; decide), rfl, ?_⟩
    refine ⟨_, rfl, _, _, _, _, rfl, upd_same, (by show 1 < 1000; decide), rfl, ?_⟩
    refine ⟨_, rfl, _, _, _, _, rfl, upd_same, (by show 2 < 1000; decide), rfl, ?_⟩
    rw [upd_upd, upd_upd]
    refine ⟨Nat.zero_le _, fun l hl => ?_⟩
    have ne : p ≠ l := ne_of_none upd_same hl
    refine ⟨_, rfl, _, _, _, _, rfl, (by rw [upd_ne ne]; exact upd_same), (by show 3 < 1000; decide), rfl, ?_⟩
    refine ⟨_, rfl, _, _, _, _, rfl, upd_same, (by show 4 < 1000; decide), rfl, ?_⟩
    rw [upd_upd, upd_over (Ne.symm ne)]
    rw [upd_ne (Ne.symm ne)] at hl
    exact k l hl
theorem ok_Tin___init__ {f : Addr} {fd : FuncData} (F : Fun K "__init__" "Tin.__init__" s_Tin___init__ f fd) (T : Txt K mg C) : FnOk P w K mg base CX0 1 f fd ["self"] (sp_Tin___init__ C) := by
  refine F.ok sc_Tin___init__ (fun vs H Q E h => ?_) (fun cdv A outer s H vs Q E hr h => ?_)
  · obtain ⟨p, dx, rfl, hp, k⟩ := h
    rfl
  · obtain ⟨p, dx, rfl, hp, k⟩ := h
    refine ⟨_, (pss_cons (psf T.cT (T.nT _ (by decide +kernel)) (pv 0) pe_int)
      (pss_cons (psf T.cT (T.nT _ (by decide +kernel)) (pv 0) (pe_lst pa_nil))
      (pss_one (psf T.cT (T.nT _ (by decide +kernel)) (pv 0) (pe_lst pa_nil))))), ?_⟩
    refine ⟨_, rfl, _, _, _, _, rfl, hp, (by show 0 < 1000; decide), rfl, ?_⟩
    refine ⟨Nat.zero_le _, fun l hl => ?_⟩
    have ne : p ≠ l := ne_of_none upd_same hl
    refine ⟨_, rfl, _, _, _, _, rfl, (by rw [upd_ne ne]; exact upd_same), (by show 1 < 1000; decide), rfl, ?_⟩
    rw [upd_over (Ne.symm ne)]
    refine ⟨Nat.zero_le _, fun u hu => ?_⟩
    have ne2 : p ≠ u := ne_of_none upd_same hu
    have lu : l ≠ u := ne_of_none (o := .lst []) (by rw [upd_ne (Ne.symm ne), upd_same]) hu
    refine ⟨_, rfl, _, _, _, _, rfl, (by rw [upd_ne ne2]; exact upd_same), (by show 2 < 1000; decide), rfl, ?_⟩
    rw [upd_over (Ne.symm ne2)]
    rw [upd_ne (Ne.symm ne)] at hl
    rw [upd_ne (Ne.symm ne2), upd_ne (Ne.symm lu)] at hu
    exact k l u hl hu lu
theorem ok_World___init__ {f : Addr} {fd : FuncData} (F : Fun K "__init__" "World.__init__" s_World___init__ f fd) (T : Txt K mg C) : FnOk P w K mg base CX0 1 f fd ["self"] (sp_World___init__ C) := by
  refine F.ok sc_World___init__ (fun vs H Q E h => ?_) (fun cdv A outer s H vs Q E hr h => ?_)
  · obtain ⟨p, dx, rfl, hp, k⟩ := h
    rfl
  · obtain ⟨p, dx, rfl, hp, k⟩ := h
    refine ⟨_, (pss_cons (psf T.cW (T.nW _ (by decide +kernel)) (pv 0) (pe_lst pa_nil))
      (pss_cons (psf T.cW (T.nW _ (by decide +kernel)) (pv 0) (pe_lst pa_nil))
      (pss_cons (psf T.cW (T.nW _ (by decide +kernel)) (pv 0) (pe_lst pa_nil))
      (pss_cons (psf T.cW (T.nW _ (by decide +kernel)) (pv 0) (pe_gc T.g_NOT_ARMED))
      (pss_one (psf T.cW (T.nW _ (by decide +kernel)) (pv 0) pe_int)))))), ?_⟩
    refine ⟨Nat.zero_le _, fun a ha => ?_⟩
    have na : p ≠ a := ne_of_none hp ha
    refine ⟨_, rfl, _, _, _, _, rfl, (by rw [upd_ne na]; exact hp), (by show 0 < 1000; decide), rfl, ?_⟩
    refine ⟨Nat.zero_le _, fun b hb => ?_⟩
    have nb : p ≠ b := ne_of_none upd_same hb
    have ab : a ≠ b := ne_of_none (o := .lst []) (by rw [upd_ne (Ne.symm na), upd_same]) hb
    refine ⟨_, rfl, _, _, _, _, rfl, (by rw [upd_ne nb]; exact upd_same), (by show 1 < 1000; decide), rfl, ?_⟩
    rw [upd_over (Ne.symm nb)]
    refine ⟨Nat.zero_le _, fun c hc => ?_⟩
    have nc : p ≠ c := ne_of_none upd_same hc
    have bc : b ≠ c := ne_of_none (o := .lst []) (by rw [upd_ne (Ne.symm nb), upd_same]) hc
    have ac : a ≠ c := ne_of_none (o := .lst []) (by rw [upd_ne (Ne.symm na), upd_ne ab, upd_same]) hc
    refine ⟨_, rfl, _, _, _, _, rfl, (by rw [upd_ne nc]; exact upd_same), (by show 2 < 1000; decide), rfl, ?_⟩
    rw [upd_over (Ne.symm nc)]
    refine ⟨_, rfl, _, _, _, _, rfl, upd_same, (by show 3 < 1000; decide), rfl, ?_⟩
    refine ⟨_, rfl, _, _, _, _, rfl, upd_same, (by show 4 < 1000; decide), rfl, ?_⟩
    rw [upd_upd, upd_upd]
    rw [upd_ne (Ne.symm nb), upd_ne (Ne.symm ab)] at hb
    rw [upd_ne (Ne.symm nc), upd_ne (Ne.symm bc), upd_ne (Ne.symm ac)] at hc
    exact k a b c ha hb hc ab ac bc
end
end RF
end
section
set_option linter.all false
set_option Elab.async false
set_option maxRecDepth 100000
set_option maxHeartbeats 4000000
namespace RF
open PySem PySem.Spec PyProof.Rows L2
def fput (f : Nat → Addr) (n : Nat) (x : Addr) : Nat → Addr := fun j => if j = n then x else f j
theorem fput_at {f : Nat → Addr} {n : Nat} {x : Addr} : fput f n x n = x := if_pos rfl
theorem fput_lt {f : Nat → Addr} {n : Nat} {x : Addr} {j : Nat} (h : j < n) : fput f n x j = f j := if_neg (by omega)
/-- n new parties -/
structure Ps (C : Cs) (H0 H : Hp) (n : Nat) (A L X : Nat → Addr) : Prop where
  ob : ∀ j, j < n → H (A j) = some (.ins C.P (X j) (pF j (-1) 0 (L j) 0))
  li : ∀ j, j < n → H (L j) = some (.lst [])
  fa : ∀ j, j < n → H0 (A j) = none
  fl : ∀ j, j < n → H0 (L j) = none
  ia : ∀ j k, j < n → k < n → A j = A k → j = k
  il : ∀ j k, j < n → k < n → L j = L k → j = k
theorem Ps.add {C : Cs} {H0 H H' : Hp} {n : Nat} {A L X : Nat → Addr} {x l dx : Addr} (Z : Ps C H0 H n A L X) (sm : ∀ b o, H0 b = some o → H b = some o) (hx : H x = none) (hl : H l = none)
    (kA : ∀ j, j < n → H' (A j) = H (A j)) (kL : ∀ j, j < n → H' (L j) = H (L j)) (nx : H' x = some (.ins C.P dx (pF n (-1) 0 l 0))) (nl : H' l = some (.lst [])) : Ps C H0 H' (n + 1) (fput A n x) (fput L n l) (fput X n dx) := by
  have f0 : ∀ {b : Addr}, H b = none → H0 b = none := fun {b} h => by
    cases q : H0 b with
    | none => rfl
    | some o => rw [sm b o q] at h; cases h
  have cs : ∀ j, j < n + 1 → j < n ∨ j = n := fun j h => by omega
  refine ⟨fun j h => ?_, fun j h => ?_, fun j h => ?_, fun j h => ?_, fun j k h h' e => ?_, fun j k h h' e => ?_⟩
  · rcases cs j h with q | rfl
    · rw [fput_lt q, fput_lt q, fput_lt q, kA j q]; exact Z.ob j q
    · rw [fput_at, fput_at, fput_at]; exact nx
  · rcases cs j h with q | rfl
    · rw [fput_lt q, kL j q]; exact Z.li j q
    · rw [fput_at]; exact nl
  · rcases cs j h with q | rfl
    · rw [fput_lt q]; exact Z.fa j q
    · rw [fput_at]; exact f0 hx
  · rcases cs j h with q | rfl
    · rw [fput_lt q]; exact Z.fl j q
    · rw [fput_at]; exact f0 hl
  · rcases cs j h with q | rfl <;> rcases cs k h' with q' | rfl
    · rw [fput_lt q, fput_lt q'] at e; exact Z.ia j k q q' e
    · rw [fput_lt q, fput_at] at e
      have := Z.ob j q
      rw [e, hx] at this; cases this
    · rw [fput_lt q', fput_at] at e
      have := Z.ob k q'
      rw [← e, hx] at this; cases this
    · rfl
  · rcases cs j h with q | rfl <;> rcases cs k h' with q' | rfl
    · rw [fput_lt q, fput_lt q'] at e; exact Z.il j k q q' e
    · rw [fput_lt q, fput_at] at e
      have := Z.li j q
      rw [e, hl] at this; cases this
    · rw [fput_lt q', fput_at] at e
      have := Z.li k q'
      rw [← e, hl] at this; cases this
    · rfl
/-- k new tins -/
structure Ts (C : Cs) (H0 H : Hp) (n : Nat) (B L U X : Nat → Addr) : Prop where
  ob : ∀ j, j < n → H (B j) = some (.ins C.T (X j) (tF 0 (L j) (U j)))
  li : ∀ j, j < n → H (L j) = some (.lst [])
  ui : ∀ j, j < n → H (U j) = some (.lst [])
  fa : ∀ j, j < n → H0 (B j) = none
  fl : ∀ j, j < n → H0 (L j) = none
  fu : ∀ j, j < n → H0 (U j) = none
  ia : ∀ j k, j < n → k < n → B j = B k → j = k
  il : ∀ j k, j < n → k < n → L j = L k → j = k
  iu : ∀ j k, j < n → k < n → U j = U k → j = k
  lu : ∀ j k, j < n → k < n → L j ≠ U k
theorem Ts.add {C : Cs} {H0 H H' : Hp} {n : Nat} {B L U X : Nat → Addr} {x l u dx : Addr} (Z : Ts C H0 H n B L U X) (sm : ∀ b o, H0 b = some o → H b = some o) (hx : H x = none) (hl : H l = none) (hu : H u = none) (hlu : l ≠ u)
    (kA : ∀ j, j < n → H' (B j) = H (B j)) (kL : ∀ j, j < n → H' (L j) = H (L j)) (kU : ∀ j, j < n → H' (U j) = H (U j)) (nx : H' x = some (.ins C.T dx (tF 0 l u))) (nl : H' l = some (.lst [])) (nu : H' u = some (.lst [])) : Ts C H0 H' (n + 1) (fput B n x) (fput L n l) (fput U n u) (fput X n dx) := by
  have f0 : ∀ {b : Addr}, H b = none → H0 b = none := fun {b} h => by
    cases q : H0 b with
    | none => rfl
    | some o => rw [sm b o q] at h; cases h
  have cs : ∀ j, j < n + 1 → j < n ∨ j = n := fun j h => by omega
  refine ⟨fun j h => ?_, fun j h => ?_, fun j h => ?_, fun j h => ?_, fun j h => ?_, fun j h => ?_, fun j k h h' e => ?_, fun j k h h' e => ?_, fun j k h h' e => ?_, fun j k h h' e => ?_⟩
  · rcases cs j h with q | rfl
    · rw [fput_lt q, fput_lt q, fput_lt q, fput_lt q, kA j q]; exact Z.ob j q
    · rw [fput_at, fput_at, fput_at, fput_at]; exact nx
  · rcases cs j h with q | rfl
    · rw [fput_lt q, kL j q]; exact Z.li j q
    · rw [fput_at]; exact nl
  · rcases cs j h with q | rfl
    · rw [fput_lt q, kU j q]; exact Z.ui j q
    · rw [fput_at]; exact nu
  · rcases cs j h with q | rfl
    · rw [fput_lt q]; exact Z.fa j q
    · rw [fput_at]; exact f0 hx
  · rcases cs j h with q | rfl
    · rw [fput_lt q]; exact Z.fl j q
    · rw [fput_at]; exact f0 hl
  · rcases cs j h with q | rfl
    · rw [fput_lt q]; exact Z.fu j q
    · rw [fput_at]; exact f0 hu
  · rcases cs j h with q | rfl <;> rcases cs k h' with q' | rfl
    · rw [fput_lt q, fput_lt q'] at e; exact Z.ia j k q q' e
    · rw [fput_lt q, fput_at] at e
      have := Z.ob j q
      rw [e, hx] at this; cases this
    · rw [fput_lt q', fput_at] at e
      have := Z.ob k q'
      rw [← e, hx] at this; cases this
    · rfl
  · rcases cs j h with q | rfl <;> rcases cs k h' with q' | rfl
    · rw [fput_lt q, fput_lt q'] at e; exact Z.il j k q q' e
    · rw [fput_lt q, fput_at] at e
      have := Z.li j q
      rw [e, hl] at this; cases this
    · rw [fput_lt q', fput_at] at e
      have := Z.li k q'
      rw [← e, hl] at this; cases this
    · rfl
  · rcases cs j h with q | rfl <;> rcases cs k h' with q' | rfl
    · rw [fput_lt q, fput_lt q'] at e; exact Z.iu j k q q' e
    · rw [fput_lt q, fput_at] at e
      have := Z.ui j q
      rw [e, hu] at this; cases this
    · rw [fput_lt q', fput_at] at e
      have := Z.ui k q'
      rw [← e, hu] at this; cases this
    · rfl
  · rcases cs j h with q | rfl <;> rcases cs k h' with q' | rfl
    · rw [fput_lt q, fput_lt q'] at e; exact Z.lu j k q q' e
    · rw [fput_lt q, fput_at] at e
      have := Z.li j q
      rw [e, hu] at this; cases this
    · rw [fput_lt q', fput_at] at e
      have := Z.ui k q'
      rw [← e, hl] at this; cases this
    · rw [fput_at, fput_at] at e; exact hlu e
theorem Ps.keep {C : Cs} {H0 H H' : Hp} {n : Nat} {A L X : Nat → Addr} (Z : Ps C H0 H n A L X) (h : ∀ b, H0 b = none → H b ≠ none → H' b = H b) : Ps C H0 H' n A L X :=
  ⟨fun j q => (h _ (Z.fa j q) (by rw [Z.ob j q]; simp)).trans (Z.ob j q), fun j q => (h _ (Z.fl j q) (by rw [Z.li j q]; simp)).trans (Z.li j q), Z.fa, Z.fl, Z.ia, Z.il⟩
theorem Ts.keep {C : Cs} {H0 H H' : Hp} {n : Nat} {B L U X : Nat → Addr} (Z : Ts C H0 H n B L U X) (h : ∀ b, H0 b = none → H b ≠ none → H' b = H b) : Ts C H0 H' n B L U X :=
  ⟨fun j q => (h _ (Z.fa j q) (by rw [Z.ob j q]; simp)).trans (Z.ob j q), fun j q => (h _ (Z.fl j q) (by rw [Z.li j q]; simp)).trans (Z.li j q), fun j q => (h _ (Z.fu j q) (by rw [Z.ui j q]; simp)).trans (Z.ui j q), Z.fa, Z.fl, Z.fu, Z.ia, Z.il, Z.iu, Z.lu⟩
theorem tYes_do {σ : L2.St} {H : Hp} {A B : Hp → Prop} (h : A H) : tYes σ H fun b H3 => if b = true then A H3 else B H3 := by
  show (fun (b : Bool) (H3 : Hp) => if b = true then A H3 else B H3) true H
  simp only [if_true]
  exact h
def freshSt (n k : Nat) : Vbexac.St := { on := true, papers := List.replicate n {}, places := List.replicate n 0, tins := List.replicate k {}, eaten := List.replicate n 0 }
def sp_World_begin (C : Cs) : Sp := fun vs H Q _ => ∃ (v : Vw) (n k : Nat), At C v H ∧ vs = [.ref (v.G .world), .int n, .int k] ∧ n ≤ 1000 ∧ k ≤ 1000 ∧ ∀ v' H', v'.s = freshSt n k → v'.G .world = v.G .world → At C v' H' → Ext C v H v' H' → Q .non H'
theorem fresh_paper (n k i : Nat) : Vbexac.paper (freshSt n k) i = {} := by
  unfold Vbexac.paper freshSt
  show (List.replicate n ({} : Vbexac.Paper)).getD i {} = {}
  rw [List.getD_eq_getElem?_getD, List.getElem?_replicate]; split <;> rfl
theorem fresh_tin (n k i : Nat) : Vbexac.tin (freshSt n k) i = {} := by
  unfold Vbexac.tin freshSt
  show (List.replicate k ({} : Vbexac.Tin)).getD i {} = {}
  rw [List.getD_eq_getElem?_getD, List.getElem?_replicate]; split <;> rfl
theorem fresh_place (n k i : Nat) : Vbexac.place (freshSt n k) i = 0 := by
  unfold Vbexac.place freshSt
  show (List.replicate n 0).getD i 0 = 0
  rw [List.getD_eq_getElem?_getD, List.getElem?_replicate]; split <;> rfl
theorem fresh_eaten (n k i : Nat) : (freshSt n k).eaten.getD i 0 = 0 := by
  unfold freshSt
  show (List.replicate n 0).getD i 0 = 0
  rw [List.getD_eq_getElem?_getD, List.getElem?_replicate]; split <;> rfl
theorem fresh_len (n k : Nat) : (freshSt n k).papers.length = n ∧ (freshSt n k).tins.length = k := by unfold freshSt; simp
def gNew (w p t m : Addr) (A L B La U : Nat → Addr) : Role → Addr
  | .world => w | .lp => p | .lt => t | .lm => m
  | .party i => A i | .elist i => L i | .entry _ _ => 0
  | .tin d => B d | .laid d => La d | .used d => U d | .msg _ => 0
def dNew (w : Addr) (X Y : Nat → Addr) : Role → Addr
  | .world => w | .party i => X i | .tin d => Y d | _ => 0
/-- the world as begin leaves it -/
theorem At.fresh {C : Cs} {H0 H1 H : Hp} {w dw p t m : Addr} {n k : Nat} {A L X B La U Y : Nat → Addr} (Z1 : Ps C H0 H1 n A L X) (Z2 : Ts C H1 H k B La U Y) (s1 : ∀ j, j < n → H (A j) = H1 (A j)) (s2 : ∀ j, j < n → H (L j) = H1 (L j))
    (hw : H w = some (.ins C.W dw (wF p t m (-1) 0))) (hw0 : H0 w ≠ none) (hw1 : H1 w ≠ none)
    (hp : H p = some (.lst (refsV n A))) (hp0 : ∀ j, j < n → p ≠ L j) (hp1 : H1 p ≠ none) (ht : H t = some (.lst (refsV k B))) (ht1 : H1 t = none) (htl : ∀ j, j < k → t ≠ La j ∧ t ≠ U j) (hm : H m = some (.lst [])) (hmp : m ≠ p) (hmt : m ≠ t) (hml : ∀ j, j < n → m ≠ L j) (hmk : ∀ j, j < k → m ≠ La j ∧ m ≠ U j) :
    At C ⟨gNew w p t m A L B La U, dNew dw X Y, freshSt n k⟩ H := by
  obtain ⟨e1, e2⟩ := fresh_len n k
  have vE : ∀ i j o, cont C ⟨gNew w p t m A L B La U, dNew dw X Y, freshSt n k⟩ (.entry i j) = some o → False := fun i j o h => by
    have : ((Vbexac.paper (freshSt n k) i).entries[j]?).map (fun e => HO.ins C.E (dNew dw X Y (.entry i j)) (eF e)) = some o := h
    rw [fresh_paper] at this
    simp at this
  have vM : ∀ j o, cont C ⟨gNew w p t m A L B La U, dNew dw X Y, freshSt n k⟩ (.msg j) = some o → False := fun j o h => by
    have : (((freshSt n k).air)[j]?).map (fun e => HO.ins C.M (dNew dw X Y (.msg j)) (mF e)) = some o := h
    simp [freshSt] at this
  have lP : ∀ i o, cont C ⟨gNew w p t m A L B La U, dNew dw X Y, freshSt n k⟩ (.party i) = some o → i < n ∧ o = .ins C.P (X i) (pF i (-1) 0 (L i) 0) := fun i o h => by
    have h : (if i < (freshSt n k).papers.length then some (HO.ins C.P (X i) (pF i ((Vbexac.place (freshSt n k) i : Int) - 1) (Vbexac.paper (freshSt n k) i).next (L i) ((freshSt n k).eaten.getD i 0 : Nat))) else none) = some o := h
    rw [e1, fresh_paper, fresh_place, fresh_eaten] at h
    split at h
    · rename_i q; exact ⟨q, (Option.some.inj h).symm⟩
    · cases h
  have lL : ∀ i o, cont C ⟨gNew w p t m A L B La U, dNew dw X Y, freshSt n k⟩ (.elist i) = some o → i < n ∧ o = .lst [] := fun i o h => by
    have h : (if i < (freshSt n k).papers.length then some (HO.lst (refsV (Vbexac.paper (freshSt n k) i).entries.length fun j => 0)) else none) = some o := h
    rw [e1, fresh_paper] at h
    split at h
    · rename_i q; exact ⟨q, (Option.some.inj h).symm⟩
    · cases h
  have lB : ∀ i o, cont C ⟨gNew w p t m A L B La U, dNew dw X Y, freshSt n k⟩ (.tin i) = some o → i < k ∧ o = .ins C.T (Y i) (tF 0 (La i) (U i)) := fun i o h => by
    have h : (if i < (freshSt n k).tins.length then some (HO.ins C.T (Y i) (tF (Vbexac.tin (freshSt n k) i).food (La i) (U i))) else none) = some o := h
    rw [e2, fresh_tin] at h
    split at h
    · rename_i q; exact ⟨q, (Option.some.inj h).symm⟩
    · cases h
  have lA : ∀ i o, cont C ⟨gNew w p t m A L B La U, dNew dw X Y, freshSt n k⟩ (.laid i) = some o → i < k ∧ o = .lst [] := fun i o h => by
    have h : (if i < (freshSt n k).tins.length then some (HO.lst (natsV (Vbexac.tin (freshSt n k) i).laid)) else none) = some o := h
    rw [e2, fresh_tin] at h
    split at h
    · rename_i q; exact ⟨q, (Option.some.inj h).symm⟩
    · cases h
  have lU : ∀ i o, cont C ⟨gNew w p t m A L B La U, dNew dw X Y, freshSt n k⟩ (.used i) = some o → i < k ∧ o = .lst [] := fun i o h => by
    have h : (if i < (freshSt n k).tins.length then some (HO.lst (natsV (Vbexac.tin (freshSt n k) i).used)) else none) = some o := h
    rw [e2, fresh_tin] at h
    split at h
    · rename_i q; exact ⟨q, (Option.some.inj h).symm⟩
    · cases h
  have is_ : ∀ r o, cont C ⟨gNew w p t m A L B La U, dNew dw X Y, freshSt n k⟩ r = some o → H (gNew w p t m A L B La U r) = some o := fun r o h => by
    cases r with
    | world => rw [← h]; exact hw
    | lp =>
      rw [← h]
      show H p = some (.lst (refsV (freshSt n k).papers.length A))
      rw [e1]; exact hp
    | lt =>
      rw [← h]
      show H t = some (.lst (refsV (freshSt n k).tins.length B))
      rw [e2]; exact ht
    | lm => rw [← h]; exact hm
    | party i => obtain ⟨q, rfl⟩ := lP i o h; exact (s1 i q).trans (Z1.ob i q)
    | elist i => obtain ⟨q, rfl⟩ := lL i o h; exact (s2 i q).trans (Z1.li i q)
    | entry i j => exact (vE i j o h).elim
    | tin i => obtain ⟨q, rfl⟩ := lB i o h; exact Z2.ob i q
    | laid i => obtain ⟨q, rfl⟩ := lA i o h; exact Z2.li i q
    | used i => obtain ⟨q, rfl⟩ := lU i o h; exact Z2.ui i q
    | msg j => exact (vM j o h).elim
  -- two lists that stand apart
  have dif : ∀ {a b : Addr}, H1 a ≠ none → H1 b = none → a ≠ b := fun h h' e => h (by rw [e]; exact h')
  have L1 : ∀ i, i < n → H1 (L i) ≠ none := fun i q z => by rw [Z1.li i q] at z; cases z
  have ins_lst : ∀ {a b : Addr} {C1 d1 : Addr} {f1 : List (Str × V)} {l : List V}, H a = some (.ins C1 d1 f1) → H b = some (.lst l) → a ≠ b := fun h h' => ne_of h h' (by intro z; cases z)
  refine ⟨is_, ?_⟩
  have key : ∀ r r' o o', cont C ⟨gNew w p t m A L B La U, dNew dw X Y, freshSt n k⟩ r = some o → cont C ⟨gNew w p t m A L B La U, dNew dw X Y, freshSt n k⟩ r' = some o' → gNew w p t m A L B La U r = gNew w p t m A L B La U r' → r = r' := by
    intro r r' o o' h h' e
    have oo : o = o' := by
      have a := is_ r o h
      have b := is_ r' o' h'
      rw [e] at a
      exact Option.some.inj (a.symm.trans b)
    subst oo
    cases r with
    | world  =>
      have a : o = .ins C.W dw (wF p t m (-1) 0) := (Option.some.inj h).symm
      cases r' with
      | world  =>
        rfl
      | lp  =>
        have b : o = .lst (refsV (freshSt n k).papers.length A) := (Option.some.inj h').symm
        rw [a] at b; cases b
      | lt  =>
        have b : o = .lst (refsV (freshSt n k).tins.length B) := (Option.some.inj h').symm
        rw [a] at b; cases b
      | lm  =>
        have b : o = .lst (refsV 0 fun _ => 0) := (Option.some.inj h').symm
        rw [a] at b; cases b
      | party i' =>
        obtain ⟨qb, b⟩ := lP i' o h'
        rw [a] at b
        injection b with _ _ b
        injection b with b _
        injection b with b _
        exact absurd b (by decide +kernel)
      | elist i' =>
        obtain ⟨qb, b⟩ := lL i' o h'
        rw [a] at b; cases b
      | entry i' j' => exact (vE i' j' o h').elim
      | tin i' =>
        obtain ⟨qb, b⟩ := lB i' o h'
        rw [a] at b
        injection b with _ _ b
        injection b with b _
        injection b with b _
        exact absurd b (by decide +kernel)
      | laid i' =>
        obtain ⟨qb, b⟩ := lA i' o h'
        rw [a] at b; cases b
      | used i' =>
        obtain ⟨qb, b⟩ := lU i' o h'
        rw [a] at b; cases b
      | msg i' => exact (vM i' o h').elim
    | lp  =>
      have a : o = .lst (refsV (freshSt n k).papers.length A) := (Option.some.inj h).symm
      cases r' with
      | world  =>
        have b : o = .ins C.W dw (wF p t m (-1) 0) := (Option.some.inj h').symm
        rw [a] at b; cases b
      | lp  =>
        rfl
      | lt  =>
        have b : o = .lst (refsV (freshSt n k).tins.length B) := (Option.some.inj h').symm
        exact absurd e (dif hp1 ht1)
      | lm  =>
        have b : o = .lst (refsV 0 fun _ => 0) := (Option.some.inj h').symm
        exact absurd e (Ne.symm hmp)
      | party i' =>
        obtain ⟨qb, b⟩ := lP i' o h'
        rw [a] at b; cases b
      | elist i' =>
        obtain ⟨qb, b⟩ := lL i' o h'
        exact absurd e (hp0 i' qb)
      | entry i' j' => exact (vE i' j' o h').elim
      | tin i' =>
        obtain ⟨qb, b⟩ := lB i' o h'
        rw [a] at b; cases b
      | laid i' =>
        obtain ⟨qb, b⟩ := lA i' o h'
        exact absurd e (dif hp1 (Z2.fl i' qb))
      | used i' =>
        obtain ⟨qb, b⟩ := lU i' o h'
        exact absurd e (dif hp1 (Z2.fu i' qb))
      | msg i' => exact (vM i' o h').elim
    | lt  =>
      have a : o = .lst (refsV (freshSt n k).tins.length B) := (Option.some.inj h).symm
      cases r' with
      | world  =>
        have b : o = .ins C.W dw (wF p t m (-1) 0) := (Option.some.inj h').symm
        rw [a] at b; cases b
      | lp  =>
        have b : o = .lst (refsV (freshSt n k).papers.length A) := (Option.some.inj h').symm
        exact absurd e.symm (dif hp1 ht1)
      | lt  =>
        rfl
      | lm  =>
        have b : o = .lst (refsV 0 fun _ => 0) := (Option.some.inj h').symm
        exact absurd e (Ne.symm hmt)
      | party i' =>
        obtain ⟨qb, b⟩ := lP i' o h'
        rw [a] at b; cases b
      | elist i' =>
        obtain ⟨qb, b⟩ := lL i' o h'
        exact absurd e (Ne.symm (dif (L1 i' qb) ht1))
      | entry i' j' => exact (vE i' j' o h').elim
      | tin i' =>
        obtain ⟨qb, b⟩ := lB i' o h'
        rw [a] at b; cases b
      | laid i' =>
        obtain ⟨qb, b⟩ := lA i' o h'
        exact absurd e (htl i' qb).1
      | used i' =>
        obtain ⟨qb, b⟩ := lU i' o h'
        exact absurd e (htl i' qb).2
      | msg i' => exact (vM i' o h').elim
    | lm  =>
      have a : o = .lst (refsV 0 fun _ => 0) := (Option.some.inj h).symm
      cases r' with
      | world  =>
        have b : o = .ins C.W dw (wF p t m (-1) 0) := (Option.some.inj h').symm
        rw [a] at b; cases b
      | lp  =>
        have b : o = .lst (refsV (freshSt n k).papers.length A) := (Option.some.inj h').symm
        exact absurd e.symm (Ne.symm hmp)
      | lt  =>
        have b : o = .lst (refsV (freshSt n k).tins.length B) := (Option.some.inj h').symm
        exact absurd e.symm (Ne.symm hmt)
      | lm  =>
        rfl
      | party i' =>
        obtain ⟨qb, b⟩ := lP i' o h'
        rw [a] at b; cases b
      | elist i' =>
        obtain ⟨qb, b⟩ := lL i' o h'
        exact absurd e (hml i' qb)
      | entry i' j' => exact (vE i' j' o h').elim
      | tin i' =>
        obtain ⟨qb, b⟩ := lB i' o h'
        rw [a] at b; cases b
      | laid i' =>
        obtain ⟨qb, b⟩ := lA i' o h'
        exact absurd e (hmk i' qb).1
      | used i' =>
        obtain ⟨qb, b⟩ := lU i' o h'
        exact absurd e (hmk i' qb).2
      | msg i' => exact (vM i' o h').elim
    | party i =>
      obtain ⟨qa, a⟩ := lP i o h
      cases r' with
      | world  =>
        have b : o = .ins C.W dw (wF p t m (-1) 0) := (Option.some.inj h').symm
        rw [a] at b
        injection b with _ _ b
        injection b with b _
        injection b with b _
        exact absurd b (by decide +kernel)
      | lp  =>
        have b : o = .lst (refsV (freshSt n k).papers.length A) := (Option.some.inj h').symm
        rw [a] at b; cases b
      | lt  =>
        have b : o = .lst (refsV (freshSt n k).tins.length B) := (Option.some.inj h').symm
        rw [a] at b; cases b
      | lm  =>
        have b : o = .lst (refsV 0 fun _ => 0) := (Option.some.inj h').symm
        rw [a] at b; cases b
      | party i' =>
        obtain ⟨qb, b⟩ := lP i' o h'
        have : i = i' := Z1.ia i i' qa qb e
        rw [this]
      | elist i' =>
        obtain ⟨qb, b⟩ := lL i' o h'
        rw [a] at b; cases b
      | entry i' j' => exact (vE i' j' o h').elim
      | tin i' =>
        obtain ⟨qb, b⟩ := lB i' o h'
        rw [a] at b
        injection b with _ _ b
        injection b with b _
        injection b with b _
        exact absurd b (by decide +kernel)
      | laid i' =>
        obtain ⟨qb, b⟩ := lA i' o h'
        rw [a] at b; cases b
      | used i' =>
        obtain ⟨qb, b⟩ := lU i' o h'
        rw [a] at b; cases b
      | msg i' => exact (vM i' o h').elim
    | elist i =>
      obtain ⟨qa, a⟩ := lL i o h
      cases r' with
      | world  =>
        have b : o = .ins C.W dw (wF p t m (-1) 0) := (Option.some.inj h').symm
        rw [a] at b; cases b
      | lp  =>
        have b : o = .lst (refsV (freshSt n k).papers.length A) := (Option.some.inj h').symm
        exact absurd e.symm (hp0 i qa)
      | lt  =>
        have b : o = .lst (refsV (freshSt n k).tins.length B) := (Option.some.inj h').symm
        exact absurd e.symm (Ne.symm (dif (L1 i qa) ht1))
      | lm  =>
        have b : o = .lst (refsV 0 fun _ => 0) := (Option.some.inj h').symm
        exact absurd e.symm (hml i qa)
      | party i' =>
        obtain ⟨qb, b⟩ := lP i' o h'
        rw [a] at b; cases b
      | elist i' =>
        obtain ⟨qb, b⟩ := lL i' o h'
        have : i = i' := Z1.il i i' qa qb e
        rw [this]
      | entry i' j' => exact (vE i' j' o h').elim
      | tin i' =>
        obtain ⟨qb, b⟩ := lB i' o h'
        rw [a] at b; cases b
      | laid i' =>
        obtain ⟨qb, b⟩ := lA i' o h'
        exact absurd e (dif (L1 i qa) (Z2.fl i' qb))
      | used i' =>
        obtain ⟨qb, b⟩ := lU i' o h'
        exact absurd e (dif (L1 i qa) (Z2.fu i' qb))
      | msg i' => exact (vM i' o h').elim
    | entry i j => exact (vE i j o h).elim
    | tin i =>
      obtain ⟨qa, a⟩ := lB i o h
      cases r' with
      | world  =>
        have b : o = .ins C.W dw (wF p t m (-1) 0) := (Option.some.inj h').symm
        rw [a] at b
        injection b with _ _ b
        injection b with b _
        injection b with b _
        exact absurd b (by decide +kernel)
      | lp  =>
        have b : o = .lst (refsV (freshSt n k).papers.length A) := (Option.some.inj h').symm
        rw [a] at b; cases b
      | lt  =>
        have b : o = .lst (refsV (freshSt n k).tins.length B) := (Option.some.inj h').symm
        rw [a] at b; cases b
      | lm  =>
        have b : o = .lst (refsV 0 fun _ => 0) := (Option.some.inj h').symm
        rw [a] at b; cases b
      | party i' =>
        obtain ⟨qb, b⟩ := lP i' o h'
        rw [a] at b
        injection b with _ _ b
        injection b with b _
        injection b with b _
        exact absurd b (by decide +kernel)
      | elist i' =>
        obtain ⟨qb, b⟩ := lL i' o h'
        rw [a] at b; cases b
      | entry i' j' => exact (vE i' j' o h').elim
      | tin i' =>
        obtain ⟨qb, b⟩ := lB i' o h'
        have : i = i' := Z2.ia i i' qa qb e
        rw [this]
      | laid i' =>
        obtain ⟨qb, b⟩ := lA i' o h'
        rw [a] at b; cases b
      | used i' =>
        obtain ⟨qb, b⟩ := lU i' o h'
        rw [a] at b; cases b
      | msg i' => exact (vM i' o h').elim
    | laid i =>
      obtain ⟨qa, a⟩ := lA i o h
      cases r' with
      | world  =>
        have b : o = .ins C.W dw (wF p t m (-1) 0) := (Option.some.inj h').symm
        rw [a] at b; cases b
      | lp  =>
        have b : o = .lst (refsV (freshSt n k).papers.length A) := (Option.some.inj h').symm
        exact absurd e.symm (dif hp1 (Z2.fl i qa))
      | lt  =>
        have b : o = .lst (refsV (freshSt n k).tins.length B) := (Option.some.inj h').symm
        exact absurd e.symm (htl i qa).1
      | lm  =>
        have b : o = .lst (refsV 0 fun _ => 0) := (Option.some.inj h').symm
        exact absurd e.symm (hmk i qa).1
      | party i' =>
        obtain ⟨qb, b⟩ := lP i' o h'
        rw [a] at b; cases b
      | elist i' =>
        obtain ⟨qb, b⟩ := lL i' o h'
        exact absurd e.symm (dif (L1 i' qb) (Z2.fl i qa))
      | entry i' j' => exact (vE i' j' o h').elim
      | tin i' =>
        obtain ⟨qb, b⟩ := lB i' o h'
        rw [a] at b; cases b
      | laid i' =>
        obtain ⟨qb, b⟩ := lA i' o h'
        have : i = i' := Z2.il i i' qa qb e
        rw [this]
      | used i' =>
        obtain ⟨qb, b⟩ := lU i' o h'
        exact absurd e (Z2.lu i i' qa qb)
      | msg i' => exact (vM i' o h').elim
    | used i =>
      obtain ⟨qa, a⟩ := lU i o h
      cases r' with
      | world  =>
        have b : o = .ins C.W dw (wF p t m (-1) 0) := (Option.some.inj h').symm
        rw [a] at b; cases b
      | lp  =>
        have b : o = .lst (refsV (freshSt n k).papers.length A) := (Option.some.inj h').symm
        exact absurd e.symm (dif hp1 (Z2.fu i qa))
      | lt  =>
        have b : o = .lst (refsV (freshSt n k).tins.length B) := (Option.some.inj h').symm
        exact absurd e.symm (htl i qa).2
      | lm  =>
        have b : o = .lst (refsV 0 fun _ => 0) := (Option.some.inj h').symm
        exact absurd e.symm (hmk i qa).2
      | party i' =>
        obtain ⟨qb, b⟩ := lP i' o h'
        rw [a] at b; cases b
      | elist i' =>
        obtain ⟨qb, b⟩ := lL i' o h'
        exact absurd e.symm (dif (L1 i' qb) (Z2.fu i qa))
      | entry i' j' => exact (vE i' j' o h').elim
      | tin i' =>
        obtain ⟨qb, b⟩ := lB i' o h'
        rw [a] at b; cases b
      | laid i' =>
        obtain ⟨qb, b⟩ := lA i' o h'
        exact absurd e.symm (Z2.lu i' i qb qa)
      | used i' =>
        obtain ⟨qb, b⟩ := lU i' o h'
        have : i = i' := Z2.iu i i' qa qb e
        rw [this]
      | msg i' => exact (vM i' o h').elim
    | msg i => exact (vM i o h).elim
  exact key
section
variable {P : Program} {w : World} {K : PySem.W.Frag} {mg : Str → Option Value} {base : Heap} {C : Cs}
theorem ok_World_begin {f : Addr} {fd : FuncData} (F : Fun K "begin" "World.begin" s_World_begin f fd) (T : Txt K mg C)
    (F_Party : Mc P w K mg base "Party" C.P 1 ["self", "who"] (sp_Party___init__ C))
    (F_Tin : Mc P w K mg base "Tin" C.T 1 ["self"] (sp_Tin___init__ C)) : FnOk P w K mg base CX0 3 f fd ["self", "parties", "depots"] (sp_World_begin C) := by
  refine F.ok sc_World_begin (fun vs H Q E h => ?_) (fun cdv A outer s H vs Q E hr h => ?_)
  · obtain ⟨v, n, kk, W, rfl, hn, hk, k⟩ := h
    rfl
  · obtain ⟨v, n, kk, W, rfl, hn, hk, k⟩ := h
    refine ⟨_, (pss_cons (psf T.cW (T.nW _ (by decide +kernel)) (pv 0) (pe_lc (own := [("who", 4)]) rfl sc_World_begin.nd (pi_range1 rfl T.b_range (pa_cons (pv 1) pa_nil)) (blkOk_by (by rfl)) (fun _ _ _ _ _ => (pg_name (i := 4) sc_World_begin.nd rfl (Or.inl rfl))) (fun _ _ _ _ _ => pts_nil) (fun _ _ _ _ _ => (pe_mc F_Party (hr.mono (by decide)) (pa_cons (pv 4) pa_nil)))))
      (pss_cons (psf T.cW (T.nW _ (by decide +kernel)) (pv 0) (pe_lc (own := [("depot", 3)]) rfl sc_World_begin.nd (pi_range1 rfl T.b_range (pa_cons (pv 2) pa_nil)) (blkOk_by (by rfl)) (fun _ _ _ _ _ => (pg_name (i := 3) sc_World_begin.nd rfl (Or.inl rfl))) (fun _ _ _ _ _ => pts_nil) (fun _ _ _ _ _ => (pe_mc0 F_Tin (hr.mono (by decide))))))
      (pss_cons (psf T.cW (T.nW _ (by decide +kernel)) (pv 0) (pe_lst pa_nil))
      (pss_cons (psf T.cW (T.nW _ (by decide +kernel)) (pv 0) (pe_gc T.g_NOT_ARMED))
      (pss_one (psf T.cW (T.nW _ (by decide +kernel)) (pv 0) pe_int)))))), ?_⟩
    have small : ∀ (m : Nat) (f : Nat → Addr), m < 2000 → (refsV m f).length < sizeLine := fun m f h => by rw [refsV_len]; exact line_lt (by omega)
    have fr : ∀ {H0 H' : Hp} {b : Addr}, (∀ b o, H0 b = some o → H' b = some o) → H' b = none → H0 b = none := fun {H0 H' b} sm h => by
      cases q : H0 b with
      | none => rfl
      | some o => rw [sm b o q] at h; cases h
    -- the parties
    refine ⟨_, rfl, _, rfl, by omega, by omega, fun D1 hD1 => ?_⟩
    refine lc_range (lo := 0) (n := n) (fun i H' => ∃ A L X, Ps C H H' i A L X ∧ H' D1 = some (.lst (refsV i A)) ∧ (∀ j, j < i → D1 ≠ L j) ∧ ∀ b o, H b = some o → H' b = some o) ?_ ?_ ?_
    · exact ⟨fun _ => 0, fun _ => 0, fun _ => 0, ⟨fun j h => absurd h (Nat.not_lt_zero _), fun j h => absurd h (Nat.not_lt_zero _), fun j h => absurd h (Nat.not_lt_zero _), fun j h => absurd h (Nat.not_lt_zero _), fun j _ h => absurd h (Nat.not_lt_zero _), fun j _ h => absurd h (Nat.not_lt_zero _)⟩, upd_same, fun j h => absurd h (Nat.not_lt_zero _), fun b o hb => by rw [upd_ne (ne_of_none hb hD1)]; exact hb⟩
    · rintro i H' hi ⟨A, L, X, Z, hD, nD, sm⟩
      refine ⟨rfl, ?_⟩
      refine tYes_do ?_
      refine ⟨_, rfl, fun x dx nx nd ne => ?_⟩
      refine ⟨x, dx, _, rfl, upd_same, fun l hl => ⟨rfl, ?_⟩⟩
      have xl : x ≠ l := ne_of_none upd_same hl
      have dl : dx ≠ l := ne_of_none (o := .own x) (by rw [upd_ne ne, upd_same]) hl
      have hl0 : H' l = none := by rw [upd_ne (Ne.symm xl), upd_ne (Ne.symm dl)] at hl; exact hl
      have oth : ∀ b, H' b ≠ none → upd (upd (upd (upd H' dx (.own x)) x (.ins C.P dx [])) l (.lst [])) x (.ins C.P dx (pF (0 + (i : Int)) (-1) 0 l 0)) b = H' b := fun b hb => by
        have b1 : b ≠ x := fun z => hb (by rw [z]; exact nx)
        have b2 : b ≠ l := fun z => hb (by rw [z]; exact hl0)
        have b3 : b ≠ dx := fun z => hb (by rw [z]; exact nd)
        rw [upd_ne b1, upd_ne b2, upd_ne b1, upd_ne b3]
      have dx1 : D1 ≠ x := ne_of_none hD nx
      have dl1 : D1 ≠ l := ne_of_none hD hl0
      refine ⟨_, (by rw [oth D1 (by rw [hD]; simp)]; exact hD), small i A (by omega), ?_⟩
      refine ⟨fput A i x, fput L i l, fput X i dx, Z.add sm nx hl0 (fun j hj => ?_) (fun j hj => ?_) ?_ ?_, ?_, fun j hj => ?_, fun b o hb => ?_⟩
      · have q := Z.ob j hj
        rw [upd_ne (ne_of q hD (by intro z; cases z)), oth _ (by rw [q]; simp)]
      · have q := Z.li j hj
        rw [upd_ne (Ne.symm (nD j hj)), oth _ (by rw [q]; simp)]
      · rw [upd_ne (Ne.symm dx1), upd_same, Int.zero_add]
      · rw [upd_ne (Ne.symm dl1), upd_ne (Ne.symm xl), upd_same]
      · rw [upd_same]
        exact congrArg (fun z => some (HO.lst z)) (refsV_snoc (fun j hj => fput_lt hj) fput_at).symm
      · rcases Nat.lt_or_ge j i with q | q
        · rw [fput_lt q]; exact nD j q
        · have : j = i := by omega
          subst this
          rw [fput_at]; exact dl1
      · rw [upd_ne (ne_of_none hb hD1), oth b (by rw [sm b o hb]; simp)]
        exact sm b o hb
    rintro H1 ⟨A, L, X, Z1, hDl, nD1, sm1⟩
    have hw := W.world
    refine ⟨_, rfl, _, _, _, _, rfl, sm1 _ _ hw, (by show 5 < 1000; decide), rfl, ?_⟩
    generalize hH1' : upd H1 (v.G .world) (.ins C.W (v.D .world) (putF "parties" (.ref D1) (wF (v.G .lp) (v.G .lt) (v.G .lm) (armedI v.s.armed) v.s.laid))) = H1'
    have w1 : H1' (v.G .world) = some (.ins C.W (v.D .world) (wF D1 (v.G .lt) (v.G .lm) (armedI v.s.armed) v.s.laid)) := by rw [← hH1']; exact upd_same
    have o1 : ∀ b, b ≠ v.G .world → H1' b = H1 b := fun b hb => by rw [← hH1']; exact upd_ne hb
    have nw : ∀ {b : Addr}, H b = none → b ≠ v.G .world := fun h z => by rw [z, hw] at h; cases h
    have Z1' : Ps C H H1' n A L X := Z1.keep fun b h0 _ => o1 b (nw h0)
    have hD1' : H1' D1 = some (.lst (refsV n A)) := by rw [o1 D1 (nw hD1)]; exact hDl
    have sm1' : ∀ b o, H b = some o → b ≠ v.G .world → H1' b = some o := fun b o hb hbw => by rw [o1 b hbw]; exact sm1 b o hb
    have fr1 : ∀ {b : Addr}, H1' b = none → H b = none := fun {b} h => by
      have hbw : b ≠ v.G .world := fun z => by rw [z, w1] at h; cases h
      rw [o1 b hbw] at h
      exact fr sm1 h
    -- the tins
    refine ⟨_, rfl, _, rfl, by omega, by omega, fun D2 hD2 => ?_⟩
    refine lc_range (lo := 0) (n := kk) (fun i H' => ∃ B La U Y, Ts C H1' H' i B La U Y ∧ H' D2 = some (.lst (refsV i B)) ∧ (∀ j, j < i → D2 ≠ La j ∧ D2 ≠ U j) ∧ ∀ b o, H1' b = some o → H' b = some o) ?_ ?_ ?_
    · exact ⟨fun _ => 0, fun _ => 0, fun _ => 0, fun _ => 0, ⟨fun j h => absurd h (Nat.not_lt_zero _), fun j h => absurd h (Nat.not_lt_zero _), fun j h => absurd h (Nat.not_lt_zero _), fun j h => absurd h (Nat.not_lt_zero _), fun j h => absurd h (Nat.not_lt_zero _), fun j h => absurd h (Nat.not_lt_zero _), fun j _ h => absurd h (Nat.not_lt_zero _), fun j _ h => absurd h (Nat.not_lt_zero _), fun j _ h => absurd h (Nat.not_lt_zero _), fun j _ h => absurd h (Nat.not_lt_zero _)⟩, upd_same, fun j h => absurd h (Nat.not_lt_zero _), fun b o hb => by rw [upd_ne (ne_of_none hb hD2)]; exact hb⟩
    · rintro i H' hi ⟨B, La, U, Y, Z, hD, nD, sm⟩
      refine ⟨rfl, ?_⟩
      refine tYes_do ?_
      refine fun x dx nx nd ne => ?_
      refine ⟨x, dx, rfl, upd_same, fun l u hl hu lu => ⟨rfl, ?_⟩⟩
      have xl : x ≠ l := ne_of_none upd_same hl
      have xu : x ≠ u := ne_of_none upd_same hu
      have dl : dx ≠ l := ne_of_none (o := .own x) (by rw [upd_ne ne, upd_same]) hl
      have du : dx ≠ u := ne_of_none (o := .own x) (by rw [upd_ne ne, upd_same]) hu
      have hl0 : H' l = none := by rw [upd_ne (Ne.symm xl), upd_ne (Ne.symm dl)] at hl; exact hl
      have hu0 : H' u = none := by rw [upd_ne (Ne.symm xu), upd_ne (Ne.symm du)] at hu; exact hu
      have oth : ∀ b, H' b ≠ none → upd (upd (upd (upd (upd H' dx (.own x)) x (.ins C.T dx [])) l (.lst [])) u (.lst [])) x (.ins C.T dx (tF 0 l u)) b = H' b := fun b hb => by
        have b1 : b ≠ x := fun z => hb (by rw [z]; exact nx)
        have b2 : b ≠ l := fun z => hb (by rw [z]; exact hl0)
        have b4 : b ≠ u := fun z => hb (by rw [z]; exact hu0)
        have b3 : b ≠ dx := fun z => hb (by rw [z]; exact nd)
        rw [upd_ne b1, upd_ne b4, upd_ne b2, upd_ne b1, upd_ne b3]
      have dx1 : D2 ≠ x := ne_of_none hD nx
      have dl1 : D2 ≠ l := ne_of_none hD hl0
      have du1 : D2 ≠ u := ne_of_none hD hu0
      refine ⟨_, (by rw [oth D2 (by rw [hD]; simp)]; exact hD), small i B (by omega), ?_⟩
      refine ⟨fput B i x, fput La i l, fput U i u, fput Y i dx, Z.add sm nx hl0 hu0 lu (fun j hj => ?_) (fun j hj => ?_) (fun j hj => ?_) ?_ ?_ ?_, ?_, fun j hj => ?_, fun b o hb => ?_⟩
      · have q := Z.ob j hj
        rw [upd_ne (ne_of q hD (by intro z; cases z)), oth _ (by rw [q]; simp)]
      · have q := Z.li j hj
        rw [upd_ne (Ne.symm (nD j hj).1), oth _ (by rw [q]; simp)]
      · have q := Z.ui j hj
        rw [upd_ne (Ne.symm (nD j hj).2), oth _ (by rw [q]; simp)]
      · rw [upd_ne (Ne.symm dx1), upd_same]
      · rw [upd_ne (Ne.symm dl1), upd_ne (Ne.symm xl), upd_ne lu, upd_same]
      · rw [upd_ne (Ne.symm du1), upd_ne (Ne.symm xu), upd_same]
      · rw [upd_same]
        exact congrArg (fun z => some (HO.lst z)) (refsV_snoc (fun j hj => fput_lt hj) fput_at).symm
      · rcases Nat.lt_or_ge j i with q | q
        · rw [fput_lt q, fput_lt q]; exact nD j q
        · have : j = i := by omega
          subst this
          rw [fput_at, fput_at]; exact ⟨dl1, du1⟩
      · rw [upd_ne (ne_of_none hb hD2), oth b (by rw [sm b o hb]; simp)]
        exact sm b o hb
    rintro H2 ⟨B, La, U, Y, Z2, hD2l, nD2, sm2⟩
    refine ⟨_, rfl, _, _, _, _, rfl, sm2 _ _ w1, (by show 5 < 1000; decide), rfl, ?_⟩
    refine ⟨Nat.zero_le _, fun m hm => ?_⟩
    have mw : m ≠ v.G .world := fun z => by rw [z, upd_same] at hm; cases hm
    have hm2 : H2 m = none := by rw [upd_ne mw] at hm; exact hm
    refine ⟨_, rfl, _, _, _, _, rfl, (by rw [upd_ne (Ne.symm mw)]; exact upd_same), (by show 5 < 1000; decide), rfl, ?_⟩
    rw [upd_over mw]
    refine ⟨_, rfl, _, _, _, _, rfl, upd_same, (by show 5 < 1000; decide), rfl, ?_⟩
    refine ⟨_, rfl, _, _, _, _, rfl, upd_same, (by show 5 < 1000; decide), rfl, ?_⟩
    rw [upd_upd, upd_upd]
    generalize hF : upd (upd H2 m (.lst [])) (v.G .world) _ = HF
    have wF' : HF (v.G .world) = some (.ins C.W (v.D .world) (wF D1 D2 m (-1) 0)) := by rw [← hF]; exact upd_same
    have oF : ∀ b, b ≠ v.G .world → b ≠ m → HF b = H2 b := fun b h1 h2 => by rw [← hF, upd_ne h1, upd_ne h2]
    have mF_ : HF m = some (.lst []) := by rw [← hF, upd_ne mw]; exact upd_same
    have hm1 : H1' m = none := fr sm2 hm2
    have nw1 : ∀ {b : Addr}, H1' b = none → b ≠ v.G .world := fun h z => by rw [z, w1] at h; cases h
    have nm : ∀ {b : Addr}, H2 b ≠ none → b ≠ m := fun h z => h (by rw [z]; exact hm2)
    have Z2' : Ts C H1' HF kk B La U Y := Z2.keep fun b h0 h1 => oF b (nw1 h0) (nm h1)
    have k1 : ∀ b, H b = none → H1' b ≠ none → HF b = H1' b := fun b h0 h1 => by
      cases q : H1' b with
      | none => exact absurd q h1
      | some o =>
        have q2 := sm2 b o q
        rw [oF b (nw h0) (nm (by rw [q2]; simp))]; exact q2
    have W' := At.fresh (w := v.G .world) (dw := v.D .world) (p := D1) (t := D2) (m := m) Z1' Z2' (fun j q => k1 _ (Z1'.fa j q) (by rw [Z1'.ob j q]; simp)) (fun j q => k1 _ (Z1'.fl j q) (by rw [Z1'.li j q]; simp)) wF' (by rw [hw]; simp) (by rw [w1]; simp)
      ((k1 D1 hD1 (by rw [hD1']; simp)).trans hD1') nD1 (by rw [hD1']; simp) (by rw [oF D2 (nw1 hD2) (nm (by rw [hD2l]; simp))]; exact hD2l) hD2 nD2 mF_
      (fun z => by rw [z, hD1'] at hm1; cases hm1) (fun z => by rw [z, hD2l] at hm2; cases hm2) (fun j q z => by
        have := Z1'.li j q
        rw [← z, hm1] at this; cases this) (fun j q => ⟨fun z => (by
        have := Z2.li j q
        rw [← z, hm2] at this; cases this), fun z => (by
        have := Z2.ui j q
        rw [← z, hm2] at this; cases this)⟩)
    refine k ⟨gNew (v.G .world) D1 D2 m A L B La U, dNew (v.D .world) X Y, freshSt n kk⟩ HF rfl rfl W' ⟨fun b o hb hf => ?_, fun b f => ?_, fun b hb => ?_⟩
    · have hbw : b ≠ v.G .world := fun z => hf ⟨.world, _, rfl, z.symm⟩
      have q1 := sm1' b o hb hbw
      have q2 := sm2 b o q1
      rw [oF b hbw (nm (by rw [q2]; simp))]; exact q2
    · obtain ⟨r, o, hr', rfl⟩ := f
      have no : H (gNew (v.G .world) D1 D2 m A L B La U r) = none ∨ r = .world := by
        obtain ⟨e1, e2⟩ := fresh_len n kk
        cases r with
        | world => exact .inr rfl
        | lp => exact .inl hD1
        | lt => exact .inl (fr1 hD2)
        | lm => exact .inl (fr1 hm1)
        | party i =>
          have hr' : (if i < (freshSt n kk).papers.length then _ else none) = some o := hr'
          rw [e1] at hr'
          split at hr'
          · rename_i q; exact .inl (Z1.fa i q)
          · cases hr'
        | elist i =>
          have hr' : (if i < (freshSt n kk).papers.length then _ else none) = some o := hr'
          rw [e1] at hr'
          split at hr'
          · rename_i q; exact .inl (Z1.fl i q)
          · cases hr'
        | entry i j =>
          have hr' : ((Vbexac.paper (freshSt n kk) i).entries[j]?).map (fun e => HO.ins C.E (dNew (v.D .world) X Y (.entry i j)) (eF e)) = some o := hr'
          rw [fresh_paper] at hr'
          simp at hr'
        | tin i =>
          have hr' : (if i < (freshSt n kk).tins.length then _ else none) = some o := hr'
          rw [e2] at hr'
          split at hr'
          · rename_i q; exact .inl (fr1 (Z2.fa i q))
          · cases hr'
        | laid i =>
          have hr' : (if i < (freshSt n kk).tins.length then _ else none) = some o := hr'
          rw [e2] at hr'
          split at hr'
          · rename_i q; exact .inl (fr1 (Z2.fl i q))
          · cases hr'
        | used i =>
          have hr' : (if i < (freshSt n kk).tins.length then _ else none) = some o := hr'
          rw [e2] at hr'
          split at hr'
          · rename_i q; exact .inl (fr1 (Z2.fu i q))
          · cases hr'
        | msg j =>
          have hr' : ((freshSt n kk).air[j]?).map (fun e => HO.ins C.M (dNew (v.D .world) X Y (.msg j)) (mF e)) = some o := hr'
          simp [freshSt] at hr'
      rcases no with z | z
      · exact .inr z
      · subst z
        exact .inl ⟨.world, _, rfl, rfl⟩
    · have hbw : b ≠ v.G .world := fun z => by rw [z, wF'] at hb; cases hb
      have hbm : b ≠ m := fun z => by rw [z, mF_] at hb; cases hb
      rw [oF b hbw hbm] at hb
      exact fr1 (fr sm2 hb)
end
end RF
end
section
set_option linter.all false
set_option Elab.async false
set_option maxRecDepth 100000
set_option maxHeartbeats 4000000
namespace RF
open PySem PySem.Spec PyProof.Rows L2
/-- a tuple of pairs of bounds -/
def PairsAt (K : PySem.W.Frag) (H : Hp) (b : Addr) (bs : List (Int × Int)) : Prop := ∃ rs : List Addr, SqT K H b (rs.map V.ref) ∧ rs.length = bs.length ∧ ∀ (i : Nat) (r : Addr) (x : Int × Int), rs[i]? = some r → bs[i]? = some x → SqT K H r [.int x.1, .int x.2]
theorem sqT_same {K : PySem.W.Frag} {H H' : Hp} {a : Addr} {xs : List V} (e : ∀ b o, H b = some o → H' b = some o) (h : SqT K H a xs) : SqT K H' a xs := by
  rcases h with (h | ⟨o, h⟩) | h
  · exact .inl (.inl (e _ _ h))
  · exact .inl (.inr ⟨o, e _ _ h⟩)
  · exact .inr h
def inB (n : Int) (b : Int × Int) : Bool := decide (b.1 ≤ n) && decide (n ≤ b.2)
def inBs : List Int → List (Int × Int) → Bool
  | n :: r, b :: t => inB n b && inBs r t
  | _, _ => true
theorem inBs_no : ∀ {ns : List Int} {bs : List (Int × Int)} {i : Nat} {n : Int} {b : Int × Int}, ns[i]? = some n → bs[i]? = some b → inB n b = false → inBs ns bs = false
  | [], _, _, _, _, h, _, _ => by simp at h
  | _ :: _, [], _, _, _, _, h, _ => by simp at h
  | m :: r, c :: t, 0, n, b, h1, h2, h3 => by
    simp at h1 h2
    subst h1 h2
    unfold inBs
    rw [h3]; rfl
  | m :: r, c :: t, i + 1, n, b, h1, h2, h3 => by
    unfold inBs
    rw [inBs_no (ns := r) (bs := t) (i := i) (by simpa using h1) (by simpa using h2) h3, Bool.and_false]
theorem inBs_yes : ∀ {ns : List Int} {bs : List (Int × Int)}, (∀ (i : Nat) n b, ns[i]? = some n → bs[i]? = some b → inB n b = true) → inBs ns bs = true
  | [], _, _ => by unfold inBs; rfl
  | _ :: _, [], _ => by unfold inBs; rfl
  | m :: r, c :: t, h => by
    unfold inBs
    rw [h 0 m c rfl rfl, inBs_yes fun i n b h1 h2 => h (i + 1) n b (by simpa using h1) (by simpa using h2)]; rfl
def sp_are_in_range (K : PySem.W.Frag) (_C : Cs) : Sp := fun vs H Q _ => ∃ (a b : Addr) (ns : List Int) (bs : List (Int × Int)), vs = [.ref a, .ref b] ∧ SqL K H a (ns.map V.int) ∧ PairsAt K H b bs ∧ ns.length = bs.length ∧
  ∀ H', (∀ b o, H b = some o → H' b = some o) → Q (.bl (inBs ns bs)) H'
section
variable {P : Program} {w : World} {K : PySem.W.Frag} {mg : Str → Option Value} {base : Heap} {C : Cs}
theorem ok_are_in_range {f : Addr} {fd : FuncData} (F : Fun K "are_in_range" "are_in_range" s_are_in_range f fd) (T : Txt K mg C) : FnOk P w K mg base CX0 1 f fd ["numbers", "ranges"] (sp_are_in_range K C) := by
  refine F.ok sc_are_in_range (fun vs H Q E h => ?_) (fun cdv A outer s H vs Q E hr h => ?_)
  · obtain ⟨a, b, ns, bs, rfl, hA, ⟨rs, hB, lenR, pr⟩, lenN, k⟩ := h
    rfl
  · obtain ⟨a, b, ns, bs, rfl, hA, ⟨rs, hB, lenR, pr⟩, lenN, k⟩ := h
    refine ⟨_, (pss_cons (ps_for PassesOwn.never rfl (pi_LT rfl T.b_zip (pa_cons (pv 0) (pa_cons (pv 1) pa_nil))) (pg_tup rfl (pgs_cons (pg_name (i := 2) sc_are_in_range.nd rfl (Or.inl rfl)) (pgs_cons (pg_name (i := 3) sc_are_in_range.nd rfl (Or.inl rfl)) pgs_nil))) (pss_one (ps_if (pw_or (pt_cmpR op_lt (pv 2) (pe_ix ix_seq (pv 3) pe_int (fun _ _ => rfl)) (nomark _)) (pw_or1 (pt_cmpR op_gt (pv 2) (pe_ix ix_seq (pv 3) pe_int (fun _ _ => rfl)) (nomark _)))).pt (pss_one (ps_ret pe_bl)) pss_nil)))
      (pss_one (ps_ret pe_bl))), ?_⟩
    have lxs : (ns.map V.int).length = ns.length := List.length_map ..
    have lys : (rs.map V.ref).length = rs.length := List.length_map ..
    refine ⟨_, rfl, _, rfl, a, b, _, _, rfl, hA, hB, ?_⟩
    refine for_LT (K := K) (a := a) (b := b) (xs := ns.map V.int) (ys := rs.map V.ref) (fun i σ H' => ∃ x y, σ = [some (V.ref a), some (V.ref b), x, y] ∧ (∀ b o, H b = some o → H' b = some o) ∧ ∀ (j : Nat) n c, j < i → ns[j]? = some n → bs[j]? = some c → inB n c = true)
      ⟨none, none, rfl, fun _ _ h => h, fun j _ _ h => absurd h (Nat.not_lt_zero _)⟩ (fun i σ H' _ ⟨_, _, _, sm, _⟩ => ⟨Same.seq sm hA, sqT_same sm hB⟩) (by rw [lxs, lys]; omega) ?_ ?_
    · rintro i x y σ H' T hx hy ⟨x0, y0, rfl, sm, yes⟩ hT
      obtain ⟨n, hn, rfl⟩ : ∃ n, ns[i]? = some n ∧ x = V.int n := by
        rw [List.getElem?_map] at hx
        cases q : ns[i]? with
        | none => rw [q] at hx; cases hx
        | some n => rw [q] at hx; exact ⟨n, rfl, (Option.some.inj hx).symm⟩
      obtain ⟨r, hr', rfl⟩ : ∃ r, rs[i]? = some r ∧ y = V.ref r := by
        rw [List.getElem?_map] at hy
        cases q : rs[i]? with
        | none => rw [q] at hy; cases hy
        | some r => rw [q] at hy; exact ⟨r, rfl, (Option.some.inj hy).symm⟩
      have hil : i < bs.length := by rw [← lenN]; exact (List.getElem?_eq_some_iff.mp hn).1
      obtain ⟨c, hc⟩ : ∃ c, bs[i]? = some c := ⟨_, List.getElem?_eq_getElem hil⟩
      have sm' : ∀ b o, H b = some o → upd H' T (.tup [V.int n, V.ref r]) b = some o := fun b o hb => by
        rw [upd_ne (ne_of_none (sm b o hb) hT)]; exact sm b o hb
      have pc := sqT_same sm' (pr i r c hr' hc)
      refine ⟨T, _, rfl, SqT.of upd_same, rfl, _, _, rfl, _, _, rfl, rfl, ?_⟩
      refine ⟨_, rfl, _, rfl, .inr (.inl ⟨_, _, _, _, rfl, rfl, pc, rfl, _, _, rfl, rfl, _, rfl, ?_⟩)⟩
      refine ite2 (fun h => ?_) (fun h => ?_)
      · refine iteT ?_
        have h := of_decide_eq_true h
        rw [inBs_no hn hc (by unfold inB; rw [decide_eq_false (by omega)]; rfl)] at k
        exact k _ sm'
      · refine ⟨_, rfl, _, rfl, .inr (.inl ⟨_, _, _, _, rfl, rfl, pc, rfl, _, _, rfl, rfl, _, rfl, ?_⟩)⟩
        have h : ¬ n < c.1 := fun z => h (decide_eq_true z)
        refine ite2 (fun h1 => ?_) (fun h1 => ?_)
        · have h1 := of_decide_eq_true h1
          rw [inBs_no hn hc (by unfold inB; rw [decide_eq_false (p := n ≤ c.2) (by omega), Bool.and_false])] at k
          exact k _ sm'
        · have h1 : ¬ c.2 < n := fun z => h1 (decide_eq_true z)
          refine ⟨_, _, rfl, sm', fun j m d hj hm hd => ?_⟩
          rcases Nat.lt_or_ge j i with z | z
          · exact yes j m d z hm hd
          · obtain rfl : j = i := by omega
            rw [hn] at hm
            rw [hc] at hd
            cases hm
            cases hd
            unfold inB
            rw [decide_eq_true (by omega), decide_eq_true (by omega)]; rfl
    · rintro σ H' ⟨x0, y0, rfl, sm, yes⟩
      rw [inBs_yes fun i n c h1 h2 => yes i n c (by rw [lxs]; exact (List.getElem?_eq_some_iff.mp h1).1) h1 h2] at k
      exact k H' sm
end
end RF
end
section
set_option linter.all false
set_option Elab.async false
set_option maxRecDepth 100000
set_option maxHeartbeats 4000000
namespace RF
open PySem PySem.Spec PyProof.Rows L2
theorem TupK.sq {K : PySem.W.Frag} {a : Addr} {xs : List V} (h : TupK K a xs) (H : Hp) : SqT K H a xs := .inr h
theorem PairsK.at_ {K : PySem.W.Frag} {b : Addr} {bs : List (Int × Int)} (h : PairsK K b bs) (H : Hp) : PairsAt K H b bs := by
  obtain ⟨rs, h1, h2, h3⟩ := h
  exact ⟨rs, h1.sq H, h2, fun i r x a b => (h3 i r x a b).sq H⟩
theorem bnds_len {i : Nat} (h : i < 21) : (bnds i).length = narg (i : Int) := by
  have : i = 0 ∨ i = 1 ∨ i = 2 ∨ i = 3 ∨ i = 4 ∨ i = 5 ∨ i = 6 ∨ i = 7 ∨ i = 8 ∨ i = 9 ∨ i = 10 ∨ i = 11 ∨ i = 12 ∨ i = 13 ∨ i = 14 ∨ i = 15 ∨ i = 16 ∨ i = 17 ∨ i = 18 ∨ i = 19 ∨ i = 20 := by omega
  rcases this with rfl | rfl | rfl | rfl | rfl | rfl | rfl | rfl | rfl | rfl | rfl | rfl | rfl | rfl | rfl | rfl | rfl | rfl | rfl | rfl | rfl <;> rfl
/-- the bounds of the p-th call -/
theorem RangesK.get {K : PySem.W.Frag} {r : Addr} (h : RangesK K r) {p : Nat} (hp : p < 21) : ∃ (ts : List V) (t : Addr), TupK K r ts ∧ ts[p]? = some (.ref t) ∧ PairsK K t (bnds p) := by
  obtain ⟨ts, h1, h2, h3⟩ := h
  have e : ts[p]? = some ts[p] := List.getElem?_eq_getElem (by omega)
  exact ⟨_, _, h1, by rw [List.getElem?_map, e]; rfl, h3 p _ e⟩
/-- a list that is known and stays -/
def Fz (K : PySem.W.Frag) (H : Hp) (a : Addr) (xs : List V) : Prop := (∃ o, H a = some (.frz o (.lst xs))) ∨
  ∃ (o : Obj) (its : Array Value) (n : Nat), K.lookup a = some o ∧ o.cls = .type "list" ∧ o.dict = none ∧ o.data = .seq its n ∧ its.size ≤ sizeLine ∧ Vals xs its.toList
theorem Fz.sq {K : PySem.W.Frag} {H : Hp} {a : Addr} {xs : List V} (h : Fz K H a xs) : SqL K H a xs := h.elim (fun z => .inl (.inr z)) .inr
theorem Fz.of {K : PySem.W.Frag} {H : Hp} {a : Addr} {xs : List V} (h : SqL K H a xs) (o : OnlyF H) : Fz K H a xs := by
  rcases h with (h | h) | h
  · rcases o a with z | ⟨ob, u, z⟩
    · rw [h] at z; cases z
    · rw [h] at z; cases z
  · exact .inl h
  · exact .inr h
theorem Fz.same {K : PySem.W.Frag} {H H' : Hp} {a : Addr} {xs : List V} (h : Fz K H a xs) (e : ∀ b o, H b = some o → H' b = some o) : Fz K H' a xs := by
  rcases h with ⟨o, h⟩ | h
  · exact .inl ⟨o, e _ _ h⟩
  · exact .inr h
theorem Fz.upd {K : PySem.W.Frag} {H : Hp} {a t : Addr} {xs l : List V} {o : HO} (h : Fz K H a xs) (ht : H t = some (.lst l)) : Fz K (upd H t o) a xs := by
  rcases h with ⟨ob, h⟩ | h
  · exact .inl ⟨ob, by rw [upd_ne (ne_of h ht (by intro z; cases z))]; exact h⟩
  · exact .inr h
theorem cont_nofrz {C : Cs} {v : Vw} {r : Role} {o : Obj} {u : HO} (h : cont C v r = some (.frz o u)) : False := by
  cases r with
  | world => cases h
  | lp => cases h
  | lt => cases h
  | lm => cases h
  | party i =>
    have h : (if i < v.s.papers.length then _ else none) = some (HO.frz o u) := h
    split at h
    · cases h
    · cases h
  | elist i =>
    have h : (if i < v.s.papers.length then _ else none) = some (HO.frz o u) := h
    split at h
    · cases h
    · cases h
  | entry i j =>
    have h : ((Vbexac.paper v.s i).entries[j]?).map (fun e => HO.ins C.E (v.D (.entry i j)) (eF e)) = some (HO.frz o u) := h
    cases q : (Vbexac.paper v.s i).entries[j]? with
    | none => rw [q] at h; cases h
    | some e => rw [q] at h; cases h
  | tin i =>
    have h : (if i < v.s.tins.length then _ else none) = some (HO.frz o u) := h
    split at h
    · cases h
    · cases h
  | laid i =>
    have h : (if i < v.s.tins.length then _ else none) = some (HO.frz o u) := h
    split at h
    · cases h
    · cases h
  | used i =>
    have h : (if i < v.s.tins.length then _ else none) = some (HO.frz o u) := h
    split at h
    · cases h
    · cases h
  | msg j =>
    have h : (v.s.air[j]?).map (fun e => HO.ins C.M (v.D (.msg j)) (mF e)) = some (HO.frz o u) := h
    cases q : v.s.air[j]? with
    | none => rw [q] at h; cases h
    | some e => rw [q] at h; cases h
theorem Fz.ext {K : PySem.W.Frag} {C : Cs} {v v' : Vw} {H H' : Hp} {a : Addr} {xs : List V} (h : Fz K H a xs) (W : At C v H) (X : Ext C v H v' H') : Fz K H' a xs := by
  rcases h with ⟨o, h⟩ | h
  · refine .inl ⟨o, X.keep a _ h fun f => ?_⟩
    obtain ⟨r, ob, h1, e⟩ := f
    have := W.is r ob h1
    rw [e, h] at this
    cases this
    exact cont_nofrz h1
  · exact .inr h
/-- the world as it is made: nothing has begun -/
theorem At.made0 {C : Cs} {H0 : Hp} {x dx a b c : Addr} (hx : H0 x ≠ none) (ha : H0 a = none) (hb : H0 b = none) (hc : H0 c = none) (ab : a ≠ b) (ac : a ≠ c) (bc : b ≠ c) :
    At C ⟨gNew x a b c (fun _ => 0) (fun _ => 0) (fun _ => 0) (fun _ => 0) (fun _ => 0), dNew dx (fun _ => 0) (fun _ => 0), Vbexac.start⟩ (upd (upd (upd (upd H0 a (.lst [])) b (.lst [])) c (.lst [])) x (.ins C.W dx (wF a b c (-1) 0))) := by
  have xa : x ≠ a := fun z => hx (by rw [z]; exact ha)
  have xb : x ≠ b := fun z => hx (by rw [z]; exact hb)
  have xc : x ≠ c := fun z => hx (by rw [z]; exact hc)
  have no : ∀ {P : Prop} {j : Nat}, j < 0 → P := fun h => absurd h (Nat.not_lt_zero _)
  have W := At.fresh (C := C) (H0 := H0) (H1 := upd H0 a (.lst [])) (H := upd (upd (upd (upd H0 a (.lst [])) b (.lst [])) c (.lst [])) x (.ins C.W dx (wF a b c (-1) 0))) (w := x) (dw := dx) (p := a) (t := b) (m := c) (n := 0) (k := 0) (A := fun _ => 0) (L := fun _ => 0) (X := fun _ => 0) (B := fun _ => 0) (La := fun _ => 0) (U := fun _ => 0) (Y := fun _ => 0)
    ⟨fun _ h => no h, fun _ h => no h, fun _ h => no h, fun _ h => no h, fun _ _ h => no h, fun _ _ h => no h⟩ ⟨fun _ h => no h, fun _ h => no h, fun _ h => no h, fun _ h => no h, fun _ h => no h, fun _ h => no h, fun _ _ h => no h, fun _ _ h => no h, fun _ _ h => no h, fun _ _ h => no h⟩ (fun _ h => no h) (fun _ h => no h) upd_same hx (by rw [upd_ne xa]; exact hx)
    (by rw [upd_ne (Ne.symm xa), upd_ne ac, upd_ne ab, upd_same]; rfl) (fun _ h => no h) (by rw [upd_same]; simp) (by rw [upd_ne (Ne.symm xb), upd_ne bc, upd_same]; rfl) (by rw [upd_ne (Ne.symm ab)]; exact hb) (fun _ h => no h) (by rw [upd_ne (Ne.symm xc), upd_same]) (Ne.symm ac) (Ne.symm bc) (fun _ h => no h) (fun _ h => no h)
  have e : ∀ r, cont C ⟨gNew x a b c (fun _ => 0) (fun _ => 0) (fun _ => 0) (fun _ => 0) (fun _ => 0), dNew dx (fun _ => 0) (fun _ => 0), Vbexac.start⟩ r = cont C ⟨gNew x a b c (fun _ => 0) (fun _ => 0) (fun _ => 0) (fun _ => 0) (fun _ => 0), dNew dx (fun _ => 0) (fun _ => 0), freshSt 0 0⟩ r := fun r => by cases r <;> rfl
  exact ⟨fun r o h => W.is r o (by rw [← e r]; exact h), fun r r' o o' h h' => W.inj r r' o o' (by rw [← e r]; exact h) (by rw [← e r']; exact h')⟩
theorem Size.small {b : Nat} {s : Vbexac.St} (z : Size b s) (h : b ≤ 1000000) : Small s := ⟨fun p => Nat.le_trans (z.en p) h, fun d => Nat.le_trans (z.la d) h, fun d => Nat.le_trans (z.us d) h, z.ai, z.pa⟩
theorem cut_take {ns : List Int} {i n : Nat} (h : i + 1 + n ≤ ns.length) : cutV (ns.map V.int) (some ((i : Int) + 1)) (some ((i : Int) + 1 + (n : Int))) = ((ns.drop (i + 1)).take n).map V.int := by
  have e1 : ((i : Int) + 1) = ((i + 1 : Nat) : Int) := by omega
  have e2 : ((i : Int) + 1 + (n : Int)) = ((i + 1 + n : Nat) : Int) := by omega
  unfold cutV
  rw [e2, e1, HT.sIx_nat, HT.sIx_nat, List.length_map, show min (i + 1) ns.length = i + 1 by omega, show min (i + 1 + n) ns.length = i + 1 + n by omega, ← List.map_drop, ← List.map_take, show i + 1 + n - (i + 1) = n by omega]
def sp_answer_call (K : PySem.W.Frag) (C : Cs) : Sp := fun vs H Q _ => ∃ (v : Vw) (p : Nat) (a : Addr) (ns : List Int), At C v H ∧ vs = [.ref (v.G .world), .int p, .ref a] ∧ p < 21 ∧ H a = some (.lst (ns.map V.int)) ∧ ¬ Foot C v a ∧ ns.length = narg p ∧ Inv v.s ∧ Small v.s ∧ (v.s.on = true ↔ v.s.papers.length ≠ 0) ∧
  Done C v H (Vbexac.step v.s (callOf p ns)) Q
def sp_answers (K : PySem.W.Frag) (C : Cs) : Sp := fun vs H Q _ => ∃ (a : Addr) (ns : List Int), vs = [.ref a] ∧ Fz K H a (ns.map V.int) ∧ ns.length ≤ 16000 ∧ PyVbexac.answers_asked ns = true ∧ ∀ (H' : Hp) (p : Addr), H' p = some (.lst ((PyVbexac.answers ns).map V.int)) → Q (.ref p) H'
section
variable {P : Program} {w : World} {K : PySem.W.Frag} {mg : Str → Option Value} {base : Heap} {C : Cs}
theorem ok_answers {f : Addr} {fd : FuncData} (F : Fun K "answers" "answers" s_answers f fd) (T : Txt K mg C)
    (F_World : Mc P w K mg base "World" C.W 1 ["self"] (sp_World___init__ C))
    (F_answer_call : Fn P w K mg base "answer_call" 9 ["world", "call", "numbers"] (sp_answer_call K C)) : FnOk P w K mg base CX0 10 f fd ["calls"] (sp_answers K C) := by
  refine F.ok sc_answers (fun vs H Q E h => ?_) (fun cdv A outer s H vs Q E hr h => ?_)
  · obtain ⟨a, ns, rfl, hF, hlen, hask, k⟩ := h
    rfl
  · obtain ⟨a, ns, rfl, hF, hlen, hask, k⟩ := h
    refine ⟨_, (pss_cons (ps_set (i := 1) sc_answers.nd rfl (Or.inl rfl) (pe_mc0 F_World (hr.mono (by decide))))
      (pss_cons (ps_set (i := 2) sc_answers.nd rfl (Or.inl rfl) (pe_lst pa_nil))
      (pss_cons (ps_set (i := 3) sc_answers.nd rfl (Or.inl rfl) pe_int)
      (pss_cons (ps_while PassesOwn.never (pt_cmpR op_lt (pv 3) (pe_callB call_len_seq (by rfl) T.b_len PySem.boot_len (pa_cons (pv 0) pa_nil)) (nomark _)) (pss_cons (ps_set (i := 4) sc_answers.nd rfl (Or.inl rfl) (pe_ix ix_seq (pv 0) (pv 3) (fun _ _ => rfl)))
      (pss_cons (ps_set (i := 5) sc_answers.nd rfl (Or.inl rfl) (pe_op op_add (pe_op op_add (pv 3) pe_int) (pe_callB call_len_seq (by rfl) T.b_len PySem.boot_len (pa_cons (pe_ix ix_seq (pe_gc T.g_RANGES) (pv 4) (fun _ _ => rfl)) pa_nil))))
      (pss_cons (ps_set (i := 6) sc_answers.nd rfl (Or.inl rfl) (pe_fn F_answer_call (hr.mono (by decide)) (pa_cons (pv 1) (pa_cons (pv 4) (pa_cons (pe_slice sl_list (pv 0) (po_some (pe_op op_add (pv 3) pe_int)) (po_some (pv 5))) pa_nil)))))
      (pss_cons (ps_expr (pe_bm PySem.F.plainAttrs_list PySem.F.slot_list_append PySem.F.type_list_append mt_append (pv 2) (pa_cons (pe_callB call_len_seq (by rfl) T.b_len PySem.boot_len (pa_cons (pv 6) pa_nil)) pa_nil)))
      (pss_cons (ps_expr (pe_bm PySem.F.plainAttrs_list PySem.F.slot_list_extend PySem.F.type_list_extend mt_extend (pv 2) (pa_cons (pv 6) pa_nil)))
      (pss_one (ps_set (i := 3) sc_answers.nd rfl (Or.inl rfl) (pv 5)))))))))
      (pss_one (ps_ret (pv 2))))))), ?_⟩
    obtain ⟨raw0, hraw, hl200, hans, htell⟩ := asked_some hask
    rw [hans] at k
    -- world = World()
    refine fun x dx nx nd ne => ?_
    refine ⟨x, dx, rfl, upd_same, fun a1 b1 c1 ha hb hc ab ac bc => ⟨rfl, ?_⟩⟩
    have W0 := At.made0 (C := C) (H0 := upd (upd H dx (.own x)) x (.ins C.W dx [])) (x := x) (dx := dx) (by rw [upd_same]; simp) ha hb hc ab ac bc
    have sm0 : ∀ b o, H b = some o → upd (upd (upd (upd (upd (upd H dx (.own x)) x (.ins C.W dx [])) a1 (.lst [])) b1 (.lst [])) c1 (.lst [])) x (.ins C.W dx (wF a1 b1 c1 (-1) 0)) b = some o := fun b o h => by
      have b0 : b ≠ x := ne_of_none h nx
      have b2 : b ≠ dx := ne_of_none h nd
      have fresh : ∀ {y : Addr}, upd (upd H dx (.own x)) x (.ins C.W dx []) y = none → b ≠ y := fun {y} hy z => by
        rw [← z, upd_ne b0, upd_ne b2, h] at hy; cases hy
      rw [upd_ne b0, upd_ne (fresh hc), upd_ne (fresh hb), upd_ne (fresh ha), upd_ne b0, upd_ne b2]; exact h
    generalize upd (upd (upd (upd (upd (upd H dx (.own x)) x (.ins C.W dx [])) a1 (.lst [])) b1 (.lst [])) c1 (.lst [])) x (.ins C.W dx (wF a1 b1 c1 (-1) 0)) = H0 at W0 sm0
    have F0 := hF.same sm0
    -- told = []; at = 0
    refine ⟨Nat.zero_le _, fun tl htl => ?_⟩
    have ntl := W0.new htl
    have W1 := W0.other (o := .lst []) ntl
    refine while_by (fun σ H' => ∃ (v : Vw) (i f b : Nat) (raw : List (List (List Int))) (ts : List Int) (x4 x5 x6 : Option V), σ = [some (V.ref a), some (V.ref x), some (V.ref tl), some (V.int i), x4, x5, x6] ∧ At C v H' ∧ v.G .world = x ∧ i ≤ ns.length ∧ PyFlat.calls PyVbexac.shape f (ns.drop i) = some raw ∧
        Inv v.s ∧ Size b v.s ∧ b + 1000 * raw.length ≤ 200000 ∧ H' tl = some (.lst (ts.map V.int)) ∧ ¬ Foot C v tl ∧ ts ++ toTell v.s raw = toTell Vbexac.start raw0 ∧ Fz K H' a (ns.map V.int))
      (fun σ _ => match σ[3]? with | some (some (V.int i)) => ns.length - i.toNat | _ => 0) ?_ ?_ ?_
    · exact ⟨_, 0, ns.length, 0, raw0, [], none, none, none, rfl, W1, rfl, Nat.zero_le _, hraw, Inv.start_, Size.start_, by omega, upd_same, ntl, rfl, F0.same fun b o h => by rw [upd_ne (ne_of_none h htl)]; exact h⟩
    · rintro σ H' ⟨v, i, f, b, raw, ts, x4, x5, x6, rfl, W2, rfl, hi, hc2, I2, Z2, hb2, t2, nt2, e2, F2⟩
      refine ⟨_, rfl, _, rfl, _, _, rfl, .inl F2.sq, _, _, rfl, rfl, _, rfl, ?_⟩
      rw [List.length_map]
      have lenT : ts.length + (toTell v.s raw).length ≤ 10000000 := by rw [← List.length_append, e2]; exact htell
      refine ite2 (fun hlt => ?_) (fun hge => ?_)
      · have hlt : i < ns.length := by have := of_decide_eq_true hlt; omega
        obtain ⟨p, hp⟩ : ∃ p, ns[i]? = some p := ⟨_, List.getElem?_eq_getElem hlt⟩
        have hdr : ns.drop i = p :: ns.drop (i + 1) := by
          rw [List.drop_eq_getElem_cons hlt]
          congr 1
          exact (List.getElem?_eq_some_iff.mp hp).2
        rw [hdr] at hc2
        obtain ⟨p0, p1, hn, raw', f', rfl, hc3⟩ := calls_step hc2
        obtain ⟨pn, rfl⟩ : ∃ pn : Nat, p = (pn : Int) := ⟨p.toNat, by omega⟩
        have hpn : pn < 21 := by omega
        rw [List.length_drop] at hn
        have hal : ((ns.drop (i + 1)).take (narg pn)).length = narg pn := by rw [List.length_take, List.length_drop]; omega
        rw [toTell_cons p0 p1 hal] at e2
        rw [toTell_len p0 p1 hal] at lenT
        obtain ⟨rt, tt, hR, hRt, hPt⟩ := T.rg.get hpn
        obtain ⟨rs, hPs, lenP, _⟩ := id hPt
        have lenP2 : rs.length = narg pn := by rw [lenP, bnds_len hpn]
        refine ⟨_, rfl, _, rfl, .inl ⟨_, _, _, _, rfl, rfl, F2.sq, atI_nat (by rw [List.getElem?_map, hp]; rfl), ?_⟩⟩
        refine ⟨_, rfl, _, _, rfl, rfl, _, rfl, .inr (.inl ⟨_, _, _, _, rfl, rfl, hR.sq _, atI_nat hRt, _, _, rfl, .inr (hPs.sq _), _, _, rfl, rfl, ?_⟩)⟩
        rw [List.length_map, lenP2]
        refine ⟨_, rfl, _, rfl, _, rfl, _, rfl, _, _, rfl, rfl, _, rfl, _, rfl, _, rfl, a, _, rfl, F2.sq, fun q hq => ?_⟩
        rw [cut_take (by omega)]
        have nq := W2.new hq
        obtain ⟨W3, X3⟩ := W2.laidNew (o := .lst (((ns.drop (i + 1)).take (narg pn)).map V.int)) hq
        obtain ⟨t3, nt3⟩ := X3.still t2 nt2
        refine ⟨v, pn, q, (ns.drop (i + 1)).take (narg pn), W3, rfl, hpn, upd_same, nq, hal, I2, Z2.small (by omega), Z2.on, fun v4 H4 r hs4 hw4 W4 X4 hr0 hr4 nr4 => ?_⟩
        obtain ⟨t4, nt4⟩ := X4.still t3 nt3
        have F4 := (F2.ext W2 X3).ext W3 X4
        have tr : tl ≠ r := ne_of_none t3 hr0
        have lenA : (List.map V.int ts).length + 1 < sizeLine := by rw [List.length_map]; exact Nat.lt_of_le_of_lt (show ts.length + 1 ≤ 10000000 by omega) (by decide)
        refine ⟨_, rfl, .inl ⟨rfl, _, SqL.of t4⟩, _, rfl, _, _, rfl, .inl (SqL.of hr4), _, _, _, rfl, rfl, t4, by omega, ?_⟩
        refine ⟨_, rfl, .inl ⟨rfl, _, SqL.of upd_same⟩, _, rfl, _, _, _, _, rfl, rfl, upd_same, (by rw [upd_ne (Ne.symm tr)]; exact hr4), ?_, ?_⟩
        · rw [List.length_append, List.length_map, List.length_map]
          exact Nat.le_trans (show ts.length + 1 + (Vbexac.step v.s (callOf pn ((ns.drop (i + 1)).take (narg pn)))).2.length ≤ 10000000 by omega) (by decide)
        · rw [upd_upd]
          have W5 := W4.other (o := .lst (ts.map V.int ++ [V.int (((Vbexac.step v.s (callOf pn ((ns.drop (i + 1)).take (narg pn)))).2.map V.int).length : Nat)] ++ (Vbexac.step v.s (callOf pn ((ns.drop (i + 1)).take (narg pn)))).2.map V.int)) nt4
          refine ⟨_, rfl, ⟨v4, i + 1 + narg pn, f', b + 1000, raw', ts ++ (((Vbexac.step v.s (callOf pn ((ns.drop (i + 1)).take (narg pn)))).2.length : Int) :: (Vbexac.step v.s (callOf pn ((ns.drop (i + 1)).take (narg pn)))).2), some (V.int pn), some (V.int ((i : Int) + 1 + (narg pn : Int))), some (V.ref r), ?_, W5, hw4, by omega, ?_, ?_, ?_, ?_, ?_, nt4, ?_, F4.upd t4⟩, ?_⟩
          · have e5 : ((i : Int) + 1 + (narg pn : Int)) = ((i + 1 + narg pn : Nat) : Int) := by omega
            show [some (V.ref a), some (V.ref (v.G .world)), some (V.ref tl), some (V.int ((i : Int) + 1 + (narg pn : Int))), some (V.int pn), some (V.int ((i : Int) + 1 + (narg pn : Int))), some (V.ref r)] = [some (V.ref a), some (V.ref (v.G .world)), some (V.ref tl), some (V.int ((i + 1 + narg pn : Nat) : Int)), some (V.int pn), some (V.int ((i : Int) + 1 + (narg pn : Int))), some (V.ref r)]
            rw [e5]
          · rw [show i + 1 + narg pn = (i + 1) + narg pn from rfl, ← List.drop_drop]; exact hc3
          · rw [hs4]; exact I2.step _
          · rw [hs4]; exact Z2.step I2 _
          · rw [List.length_cons] at hb2; omega
          · rw [upd_same, List.map_append, List.append_assoc, List.length_map]; rfl
          · rw [hs4, List.append_assoc]; exact e2
          · show (ns.length - ((i : Int) + 1 + (narg pn : Int)).toNat) < ns.length - (i : Int).toNat
            omega
      · have hi2 : i = ns.length := by
          have : ¬ (i : Int) < (ns.length : Int) := fun z => hge (decide_eq_true z)
          omega
        subst hi2
        rw [List.drop_length] at hc2
        have er : raw = [] := by
          cases f with
          | zero => exact (Option.some.inj hc2).symm
          | succ f => exact (Option.some.inj hc2).symm
        subst er
        rw [toTell_nil, List.append_nil] at e2
        refine ⟨_, rfl, k H' tl ?_⟩
        rw [t2, e2]
    · rintro σ H' Q1 Q2 h ⟨v1, h1, x1, h2, p1, y1, e1, e2, i1, j1, e3, e4, c1, e5, q⟩
      exact ⟨v1, h1, x1, h2, p1, y1, e1, e2, i1, j1, e3, e4, c1, e5, h _ _ q⟩
end
end RF
end
section
set_option linter.all false
set_option Elab.async false
namespace RF
/-! ### a call's ranges and its first refusals -/
theorem nat21 {p : Nat} (h : p < 21) : p = 0 ∨ p = 1 ∨ p = 2 ∨ p = 3 ∨ p = 4 ∨ p = 5 ∨ p = 6 ∨ p = 7 ∨ p = 8 ∨ p = 9 ∨ p = 10 ∨ p = 11 ∨ p = 12 ∨ p = 13 ∨ p = 14 ∨ p = 15 ∨ p = 16 ∨ p = 17 ∨ p = 18 ∨ p = 19 ∨ p = 20 := by omega
theorem ranged_eq {p : Nat} {ns : List Int} (hp : p < 21) (h : ns.length = narg p) : Vbexac.ranged (callOf p ns) = inBs ns (bnds p) := by
  rcases nat21 hp with rfl | rfl | rfl | rfl | rfl | rfl | rfl | rfl | rfl | rfl | rfl | rfl | rfl | rfl | rfl | rfl | rfl | rfl | rfl | rfl | rfl
  all_goals first
    | (obtain ⟨x, y, z, rfl⟩ := len3 h; show Vbexac.ranged _ = (inB x _ && (inB y _ && (inB z _ && true))); rw [Bool.and_true]; rfl)
    | (obtain ⟨x, y, rfl⟩ := len2 h; show Vbexac.ranged _ = (inB x _ && (inB y _ && true)); rw [Bool.and_true]; rfl)
    | (obtain ⟨x, rfl⟩ := len1 h; show Vbexac.ranged _ = (inB x _ && true); rw [Bool.and_true]; rfl)
    | (obtain rfl := len0 h; rfl)
section
variable {s : Vbexac.St} {p : Nat} {ns : List Int}
theorem step_out (hp : p < 21) (h : ns.length = narg p) (hr : inBs ns (bnds p) = false) : Vbexac.step s (callOf p ns) = (s, [-1]) := by
  unfold Vbexac.step
  rw [ranged_eq hp h, hr, if_pos rfl]
theorem step_begin {a b : Int} (hr : inBs [a, b] (bnds 0) = true) : Vbexac.step s (callOf 0 [a, b]) = Vbexac.act s (.begin_ a b) := by
  unfold Vbexac.step
  rw [show (0 : Int) = ((0 : Nat) : Int) from rfl, ranged_eq (p := 0) (by decide) rfl, hr, if_neg (by simp)]
  rfl
theorem step_in (hp : p < 21) (h : ns.length = narg p) (hr : inBs ns (bnds p) = true) (h0 : p ≠ 0) : Vbexac.step s (callOf p ns) = if s.on = false then (s, [-2]) else Vbexac.act s (callOf p ns) := by
  unfold Vbexac.step
  rw [ranged_eq hp h, hr, if_neg (by simp)]
  rcases nat21 hp with rfl | rfl | rfl | rfl | rfl | rfl | rfl | rfl | rfl | rfl | rfl | rfl | rfl | rfl | rfl | rfl | rfl | rfl | rfl | rfl | rfl
  · exact absurd rfl h0
  all_goals first
    | (obtain ⟨x, y, z, rfl⟩ := len3 h; rfl)
    | (obtain ⟨x, y, rfl⟩ := len2 h; rfl)
    | (obtain ⟨x, rfl⟩ := len1 h; rfl)
    | (obtain rfl := len0 h; rfl)
/-- the calls that name a party first -/
def names (p : Nat) : Bool := p == 1 || p == 2 || p == 3 || p == 4 || p == 5 || p == 6 || p == 7 || p == 9 || p == 10 || p == 13 || p == 15 || p == 18
theorem act_noparty {q : Int} {r : List Int} (hp : p < 21) (h : (q :: r).length = narg p) (hn : names p = true) (hq : (s.papers.length : Int) ≤ q) : Vbexac.act s (callOf p (q :: r)) = (s, [-3]) := by
  rcases nat21 hp with rfl | rfl | rfl | rfl | rfl | rfl | rfl | rfl | rfl | rfl | rfl | rfl | rfl | rfl | rfl | rfl | rfl | rfl | rfl | rfl | rfl
  · exfalso; revert hn; decide
  · obtain ⟨x, y, e⟩ := len2 h
    injection e with e1 e2
    subst e1 e2
    show Vbexac.act s (.come q y) = _
    unfold Vbexac.act Vbexac.ofParty
    simp only [if_pos hq]
  · obtain ⟨x, y, e⟩ := len2 h
    injection e with e1 e2
    subst e1 e2
    show Vbexac.act s (.lay q y) = _
    unfold Vbexac.act Vbexac.ofParty
    simp only [if_pos hq]
  · obtain ⟨x, y, z, e⟩ := len3 h
    injection e with e1 e2
    subst e1 e2
    show Vbexac.act s (.split q y z) = _
    unfold Vbexac.act Vbexac.ofEntry Vbexac.ofParty
    simp only [if_pos hq]
  · obtain ⟨x, y, z, e⟩ := len3 h
    injection e with e1 e2
    subst e1 e2
    show Vbexac.act s (.join q y z) = _
    unfold Vbexac.act Vbexac.ofEntry Vbexac.ofParty
    simp only [if_pos hq]
  · obtain ⟨x, y, z, e⟩ := len3 h
    injection e with e1 e2
    subst e1 e2
    show Vbexac.act s (.give q y z) = _
    unfold Vbexac.act Vbexac.ofEntry Vbexac.ofParty
    simp only [if_pos hq]
  · obtain ⟨x, y, e⟩ := len2 h
    injection e with e1 e2
    subst e1 e2
    show Vbexac.act s (.again q y) = _
    unfold Vbexac.act Vbexac.ofEntry Vbexac.ofParty
    simp only [if_pos hq]
  · obtain ⟨x, y, e⟩ := len2 h
    injection e with e1 e2
    subst e1 e2
    show Vbexac.act s (.ask q y) = _
    unfold Vbexac.act Vbexac.ofEntry Vbexac.ofParty
    simp only [if_pos hq]
  · exfalso; revert hn; decide
  · obtain ⟨x, y, e⟩ := len2 h
    injection e with e1 e2
    subst e1 e2
    show Vbexac.act s (.use q y) = _
    unfold Vbexac.act Vbexac.ofEntry Vbexac.ofParty
    simp only [if_pos hq]
  · obtain ⟨x, e⟩ := len1 h
    injection e with e1 e2
    subst e1 e2
    show Vbexac.act s (.look q) = _
    unfold Vbexac.act Vbexac.ofParty
    simp only [if_pos hq]
  · exfalso; revert hn; decide
  · exfalso; revert hn; decide
  · obtain ⟨x, e⟩ := len1 h
    injection e with e1 e2
    subst e1 e2
    show Vbexac.act s (.paper q) = _
    unfold Vbexac.act Vbexac.ofParty
    simp only [if_pos hq]
  · exfalso; revert hn; decide
  · obtain ⟨x, y, e⟩ := len2 h
    injection e with e1 e2
    subst e1 e2
    show Vbexac.act s (.counts q y) = _
    unfold Vbexac.act Vbexac.ofParty
    simp only [if_pos hq]
  · exfalso; revert hn; decide
  · exfalso; revert hn; decide
  · obtain ⟨x, y, e⟩ := len2 h
    injection e with e1 e2
    subst e1 e2
    show Vbexac.act s (.entry q y) = _
    unfold Vbexac.act Vbexac.ofParty
    simp only [if_pos hq]
  · exfalso; revert hn; decide
  · exfalso; revert hn; decide
end
end RF
end
section
set_option linter.all false
set_option Elab.async false
set_option maxRecDepth 100000
set_option maxHeartbeats 4000000
namespace RF
open PySem PySem.Spec PyProof.Rows L2
theorem At.more {C : Cs} {v : Vw} {H H' : Hp} (W : At C v H) (e : ∀ b o, H b = some o → H' b = some o) : At C v H' ∧ Ext C v H v H' := by
  refine ⟨W.same fun b f => ?_, fun b o hb _ => e b o hb, fun b f => .inl f, fun b hb => ?_⟩
  · obtain ⟨o, ho⟩ := W.foot f
    rw [ho]; exact e b o ho
  · cases q : H b with
    | none => rfl
    | some o => rw [e b o q] at hb; cases hb
theorem five_le : 5 ≤ sizeLine := by decide
theorem six_le : 6 ≤ sizeLine := by decide
theorem ints_map (l : List Nat) : (Vbexac.ints l).map V.int = natsV l := by unfold Vbexac.ints natsV; rw [List.map_map]; rfl
def sp_call_arm (C : Cs) : Sp := fun vs H Q _ => ∃ (v : Vw) (a : Option Nat), At C v H ∧ vs = [.ref (v.G .world), .int (armedI a)] ∧ Done C v H ({ v.s with armed := a }, [0]) Q
def sp_entry_told (C : Cs) : Sp := fun vs H Q _ => ∃ (v : Vw) (i j : Nat) (e : Vbexac.Entry), At C v H ∧ vs = [.ref (v.G (.entry i j))] ∧ (Vbexac.paper v.s i).entries[j]? = some e ∧ ∀ p, H p = none → Q (.ref p) (upd H p (.lst ((Vbexac.entryRow e).map V.int)))
def sp_call_paper (C : Cs) : Sp := fun vs H Q _ => ∃ (v : Vw) (i : Nat), At C v H ∧ vs = [.ref (v.G (.party i))] ∧ i < v.s.papers.length ∧ Small v.s ∧ Done C v H (Vbexac.act v.s (.paper i)) Q
def sp_call_entry (C : Cs) : Sp := fun vs H Q _ => ∃ (v : Vw) (i n : Nat), At C v H ∧ vs = [.ref (v.G (.party i)), .int n] ∧ i < v.s.papers.length ∧ Done C v H (Vbexac.act v.s (.entry i n)) Q
def sp_call_tin (C : Cs) : Sp := fun vs H Q _ => ∃ (v : Vw) (d : Nat), At C v H ∧ vs = [.ref (v.G .world), .int d] ∧ Small v.s ∧ Done C v H (Vbexac.act v.s (.tin d)) Q
def sp_call_message (C : Cs) : Sp := fun vs H Q _ => ∃ (v : Vw) (n : Nat), At C v H ∧ vs = [.ref (v.G .world), .int n] ∧ Done C v H (Vbexac.act v.s (.message n)) Q
def sp_call_air (C : Cs) : Sp := fun vs H Q _ => ∃ (v : Vw), At C v H ∧ vs = [.ref (v.G .world)] ∧ v.s.eaten.length = v.s.papers.length ∧ Small v.s ∧ Done C v H (Vbexac.act v.s .air) Q
def sp_call_counts (C : Cs) : Sp := fun vs H Q _ => ∃ (v : Vw) (i d : Nat), At C v H ∧ vs = [.ref (v.G .world), .ref (v.G (.party i)), .int d] ∧ i < v.s.papers.length ∧ Small v.s ∧ Done C v H (Vbexac.act v.s (.counts i d)) Q
section
variable {P : Program} {w : World} {K : PySem.W.Frag} {mg : Str → Option Value} {base : Heap} {C : Cs}
theorem ok_call_arm {f : Addr} {fd : FuncData} (F : Fun K "call_arm" "call_arm" s_call_arm f fd) (T : Txt K mg C) : FnOk P w K mg base CX0 1 f fd ["world", "j"] (sp_call_arm C) := by
  refine F.ok sc_call_arm (fun vs H Q E h => ?_) (fun cdv A outer s H vs Q E hr h => ?_)
  · obtain ⟨v, a, W, rfl, k⟩ := h
    rfl
  · obtain ⟨v, a, W, rfl, k⟩ := h
    refine ⟨_, (pss_cons (psf T.cW (T.nW _ (by decide +kernel)) (pv 0) (pv 1))
      (pss_one (ps_ret (pe_lst (pa_cons pe_int pa_nil))))), ?_⟩
    obtain ⟨W1, X1⟩ := W.armed a
    exact ⟨_, rfl, _, rfl, _, _, _, _, rfl, W.world, (by show 5 < 1000; decide), rfl, one_le, fun p hp => k.fin W1 X1 rfl rfl hp rfl⟩
theorem ok_entry_told {f : Addr} {fd : FuncData} (F : Fun K "entry_told" "entry_told" s_entry_told f fd) (T : Txt K mg C) : FnOk P w K mg base CX0 1 f fd ["entry"] (sp_entry_told C) := by
  refine F.ok sc_entry_told (fun vs H Q E h => ?_) (fun cdv A outer s H vs Q E hr h => ?_)
  · obtain ⟨v, i, j, e, W, rfl, he, k⟩ := h
    rfl
  · obtain ⟨v, i, j, e, W, rfl, he, k⟩ := h
    refine ⟨_, (pss_one (ps_ret (pe_lst (pa_cons (pf T.cE (T.nE _ (by decide +kernel)) (pv 0)) (pa_cons (pf T.cE (T.nE _ (by decide +kernel)) (pv 0)) (pa_cons (pf T.cE (T.nE _ (by decide +kernel)) (pv 0)) (pa_cons (pf T.cE (T.nE _ (by decide +kernel)) (pv 0)) (pa_cons (pf T.cE (T.nE _ (by decide +kernel)) (pv 0)) pa_nil)))))))), ?_⟩
    refine ⟨_, rfl, _, _, _, _, rfl, W.entry he, rfl, _, rfl, _, _, _, _, rfl, W.entry he, rfl, _, rfl, _, _, _, _, rfl, W.entry he, rfl, _, rfl, _, _, _, _, rfl, W.entry he, rfl, _, rfl, _, _, _, _, rfl, W.entry he, rfl, five_le, fun p hp => ?_⟩
    exact k p hp
theorem ok_call_paper {f : Addr} {fd : FuncData} (F : Fun K "call_paper" "call_paper" s_call_paper f fd) (T : Txt K mg C)
    (F_entry_told : Fn P w K mg base "entry_told" 1 ["entry"] (sp_entry_told C)) : FnOk P w K mg base CX0 2 f fd ["party"] (sp_call_paper C) := by
  refine F.ok sc_call_paper (fun vs H Q E h => ?_) (fun cdv A outer s H vs Q E hr h => ?_)
  · obtain ⟨v, i, W, rfl, hi, Z, k⟩ := h
    rfl
  · obtain ⟨v, i, W, rfl, hi, Z, k⟩ := h
    refine ⟨_, (pss_cons (ps_set (i := 1) sc_call_paper.nd rfl (Or.inl rfl) (pe_lst (pa_cons (pf T.cP (T.nP _ (by decide +kernel)) (pv 0)) (pa_cons (pe_callB call_len_seq (by rfl) T.b_len PySem.boot_len (pa_cons (pf T.cP (T.nP _ (by decide +kernel)) (pv 0)) pa_nil)) pa_nil))))
      (pss_cons (ps_for PassesOwn.never rfl (pi_list (pf T.cP (T.nP _ (by decide +kernel)) (pv 0))) (pg_name (i := 2) sc_call_paper.nd rfl (Or.inl rfl)) (pss_one (ps_expr (pe_bm PySem.F.plainAttrs_list PySem.F.slot_list_extend PySem.F.type_list_extend mt_extend (pv 1) (pa_cons (pe_fn F_entry_told (hr.mono (by decide)) (pa_cons (pv 2) pa_nil)) pa_nil)))))
      (pss_one (ps_ret (pv 1))))), ?_⟩
    rw [show Vbexac.act v.s (.paper i) = (v.s, ((Vbexac.paper v.s i).next : Int) :: (((Vbexac.paper v.s i).entries.length : Int) :: (Vbexac.paper v.s i).entries.flatMap Vbexac.entryRow)) by unfold Vbexac.act; exact ofParty_nat hi] at k
    refine ⟨_, rfl, _, _, _, _, rfl, W.party hi, rfl, _, rfl, _, _, _, _, rfl, W.party hi, rfl, _, _, rfl, .inl (SqL.of (W.elist hi)), two_le, fun tl htl => ?_⟩
    rw [refsV_len]
    have ntl := W.new htl
    have W1 := W.other (o := .lst [V.int (Vbexac.paper v.s i).next, V.int (Vbexac.paper v.s i).entries.length]) ntl
    refine ⟨_, rfl, _, _, _, _, rfl, W1.party hi, rfl, _, rfl, ⟨_, SqL.of (W1.elist hi)⟩, for_list (K := K) (a := v.G (.elist i)) (xs := refsV (Vbexac.paper v.s i).entries.length fun j => v.G (.entry i j))
      (fun j σ H' => ∃ x, σ = [some (.ref (v.G (.party i))), some (.ref tl), x] ∧ At C v H' ∧ Ext C v H v H' ∧ H' tl = some (.lst ((((Vbexac.paper v.s i).next : Int) :: (((Vbexac.paper v.s i).entries.length : Int) :: ((Vbexac.paper v.s i).entries.take j).flatMap Vbexac.entryRow)).map V.int)))
      ⟨none, rfl, W1, (W.laidNew htl).2, upd_same⟩ (fun j σ H' _ ⟨_, _, W', _, _⟩ => SqL.of (W'.elist hi)) ?_ ?_⟩
    · rintro j y σ H' hy ⟨x, rfl, W', X', t'⟩
      obtain ⟨hj, rfl⟩ := refsV_of hy
      obtain ⟨e, he⟩ : ∃ e, (Vbexac.paper v.s i).entries[j]? = some e := ⟨_, List.getElem?_eq_getElem hj⟩
      refine ⟨_, rfl, .inl ⟨rfl, _, SqL.of t'⟩, _, rfl, v, i, j, e, W', rfl, he, fun q hq => ?_⟩
      have nq : tl ≠ q := ne_of_none t' hq
      obtain ⟨W2, X2⟩ := W'.laidNew (o := .lst ((Vbexac.entryRow e).map V.int)) hq
      refine ⟨_, _, _, _, rfl, rfl, (by rw [upd_ne nq]; exact t'), upd_same, ?_, _, rfl, W2.other ntl, (X'.trans X2).side htl, ?_⟩
      · rw [List.length_map, List.length_map, List.length_cons, List.length_cons, rows_len, List.length_take]
        have := Z.en i
        exact Nat.le_trans (show 5 * min j (Vbexac.paper v.s i).entries.length + 1 + 1 + 5 ≤ 6000000 by omega) (by decide)
      · rw [upd_same, ← List.map_append, List.take_add_one, he, List.flatMap_append]
        show some (HO.lst (List.map V.int ((_ :: _ :: _) ++ _))) = some (HO.lst (List.map V.int (_ :: _ :: (_ ++ List.flatMap _ [e]))))
        rw [List.flatMap_singleton]
        rfl
    · rintro σ H' ⟨x, rfl, W', X', t'⟩
      rw [refsV_len, List.take_length] at t'
      exact ⟨_, rfl, k v H' tl rfl rfl W' X' htl t' ntl⟩
theorem ok_call_entry {f : Addr} {fd : FuncData} (F : Fun K "call_entry" "call_entry" s_call_entry f fd) (T : Txt K mg C)
    (F_Party_entry_of : Mt P w K mg base C.P "entry_of" 1 ["self", "number"] (sp_Party_entry_of C))
    (F_entry_told : Fn P w K mg base "entry_told" 1 ["entry"] (sp_entry_told C)) : FnOk P w K mg base CX0 2 f fd ["party", "i"] (sp_call_entry C) := by
  refine F.ok sc_call_entry (fun vs H Q E h => ?_) (fun cdv A outer s H vs Q E hr h => ?_)
  · obtain ⟨v, i, n, W, rfl, hi, k⟩ := h
    rfl
  · obtain ⟨v, i, n, W, rfl, hi, k⟩ := h
    refine ⟨_, (pss_cons (ps_set (i := 2) sc_call_entry.nd rfl (Or.inl rfl) (pe_mt F_Party_entry_of (hr.mono (by decide)) (pv 0) (pa_cons (pv 1) pa_nil)))
      (pss_cons (ps_if (pt_cmp (pc_isN (pv 2))) (pss_one (ps_ret (pe_lst (pa_cons pe_neg pa_nil)))) pss_nil)
      (pss_one (ps_ret (pe_fn F_entry_told (hr.mono (by decide)) (pa_cons (pv 2) pa_nil)))))), ?_⟩
    refine ⟨_, rfl, _, _, _, rfl, W.party hi, rfl, _, rfl, v, i, n, W, rfl, hi, fun j e he hf => ?_, fun hf => ?_⟩
    · rw [show Vbexac.act v.s (.entry i n) = (v.s, Vbexac.entryRow e) by unfold Vbexac.act; simp only []; rw [ofParty_nat hi, Int.toNat_natCast, hf]] at k
      refine ⟨_, rfl, _, rfl, ?_⟩
      refine iteF ?_
      exact ⟨_, rfl, v, i, j, e, W, rfl, he, fun p hp => k.fin W Ext.refl rfl rfl hp rfl⟩
    · rw [show Vbexac.act v.s (.entry i n) = (v.s, [-4]) by unfold Vbexac.act; simp only []; rw [ofParty_nat hi, Int.toNat_natCast, hf]] at k
      refine ⟨_, rfl, _, rfl, ?_⟩
      refine iteT ?_
      exact ⟨one_le, fun p hp => k.fin W Ext.refl rfl rfl hp rfl⟩
theorem ok_call_tin {f : Addr} {fd : FuncData} (F : Fun K "call_tin" "call_tin" s_call_tin f fd) (T : Txt K mg C) : FnOk P w K mg base CX0 1 f fd ["world", "d"] (sp_call_tin C) := by
  refine F.ok sc_call_tin (fun vs H Q E h => ?_) (fun cdv A outer s H vs Q E hr h => ?_)
  · obtain ⟨v, d, W, rfl, Z, k⟩ := h
    rfl
  · obtain ⟨v, d, W, rfl, Z, k⟩ := h
    refine ⟨_, (pss_cons (ps_if (pt_cmpR op_ge (pv 1) (pe_callB call_len_seq (by rfl) T.b_len PySem.boot_len (pa_cons (pf T.cW (T.nW _ (by decide +kernel)) (pv 0)) pa_nil)) (nomark _)) (pss_one (ps_ret (pe_lst (pa_cons pe_neg pa_nil)))) pss_nil)
      (pss_cons (ps_set (i := 2) sc_call_tin.nd rfl (Or.inl rfl) (pe_ix ix_seq (pf T.cW (T.nW _ (by decide +kernel)) (pv 0)) (pv 1) (fun _ _ => rfl)))
      (pss_one (ps_ret (pe_op op_cat (pe_op op_cat (pe_op op_cat (pe_lst (pa_cons (pf T.cT (T.nT _ (by decide +kernel)) (pv 2)) (pa_cons (pe_callB call_len_seq (by rfl) T.b_len PySem.boot_len (pa_cons (pf T.cT (T.nT _ (by decide +kernel)) (pv 2)) pa_nil)) pa_nil))) (pf T.cT (T.nT _ (by decide +kernel)) (pv 2))) (pe_lst (pa_cons (pe_callB call_len_seq (by rfl) T.b_len PySem.boot_len (pa_cons (pf T.cT (T.nT _ (by decide +kernel)) (pv 2)) pa_nil)) pa_nil))) (pf T.cT (T.nT _ (by decide +kernel)) (pv 2))))))), ?_⟩
    refine ⟨_, rfl, _, rfl, _, _, _, _, rfl, W.world, rfl, _, _, rfl, .inl (SqL.of W.lt), _, _, rfl, rfl, _, rfl, ?_⟩
    rw [refsV_len]
    refine ite2 (fun h => ?_) (fun h => ?_)
    · rw [show Vbexac.act v.s (.tin d) = (v.s, [-3]) by unfold Vbexac.act; simp only []; rw [if_pos (of_decide_eq_true h)]] at k
      exact ⟨one_le, fun p hp => k.fin W Ext.refl rfl rfl hp rfl⟩
    have hd : d < v.s.tins.length := by
      have : ¬ (v.s.tins.length : Int) ≤ (d : Int) := fun z => h (decide_eq_true z)
      omega
    rw [show Vbexac.act v.s (.tin d) = (v.s, ((Vbexac.tin v.s d).food : Int) :: (Vbexac.listed (Vbexac.ints (Vbexac.tin v.s d).laid) ++ Vbexac.listed (Vbexac.ints (Vbexac.tin v.s d).used))) by unfold Vbexac.act; simp only []; rw [if_neg (by omega), Int.toNat_natCast]] at k
    have la := Z.la d
    have us := Z.us d
    have lenN : ∀ l : List Nat, (natsV l).length = l.length := fun l => by unfold natsV; rw [List.length_map]
    refine ⟨_, rfl, _, _, _, _, rfl, W.world, rfl, _, rfl, .inl ⟨_, _, _, _, rfl, rfl, SqL.of W.lt, atI_nat (refsV_get hd), ?_⟩⟩
    refine ⟨_, rfl, _, _, _, _, rfl, W.tin hd, rfl, _, rfl, _, _, _, _, rfl, W.tin hd, rfl, _, _, rfl, .inl (SqL.of (W.laid hd)), two_le, fun p1 h1 => ?_⟩
    rw [lenN]
    obtain ⟨W1, X1⟩ := W.laidNew (o := .lst [V.int (Vbexac.tin v.s d).food, V.int (Vbexac.tin v.s d).laid.length]) h1
    refine ⟨_, rfl, _, _, _, _, rfl, W1.tin hd, rfl, _, _, _, _, rfl, rfl, upd_same, W1.laid hd, ?_, fun p2 h2 => ?_⟩
    · rw [lenN]
      exact Nat.le_trans (show 2 + (Vbexac.tin v.s d).laid.length ≤ 2000000 by omega) (by decide)
    obtain ⟨W2, X2⟩ := W1.laidNew (o := .lst ([V.int (Vbexac.tin v.s d).food, V.int (Vbexac.tin v.s d).laid.length] ++ natsV (Vbexac.tin v.s d).laid)) h2
    refine ⟨_, rfl, _, _, _, _, rfl, W2.tin hd, rfl, _, _, rfl, .inl (SqL.of (W2.used hd)), one_le, fun p3 h3 => ?_⟩
    rw [lenN]
    obtain ⟨W3, X3⟩ := W2.laidNew (o := .lst [V.int (Vbexac.tin v.s d).used.length]) h3
    have n23 : p2 ≠ p3 := ne_of_none upd_same h3
    refine ⟨_, _, _, _, rfl, rfl, (by rw [upd_ne n23, upd_same]), upd_same, ?_, fun p4 h4 => ?_⟩
    · rw [List.length_append, lenN]
      exact Nat.le_trans (show 2 + (Vbexac.tin v.s d).laid.length + 1 ≤ 2000000 by omega) (by decide)
    obtain ⟨W4, X4⟩ := W3.laidNew (o := .lst ([V.int (Vbexac.tin v.s d).food, V.int (Vbexac.tin v.s d).laid.length] ++ natsV (Vbexac.tin v.s d).laid ++ [V.int (Vbexac.tin v.s d).used.length])) h4
    refine ⟨_, rfl, _, _, _, _, rfl, W4.tin hd, rfl, _, _, _, _, rfl, rfl, upd_same, W4.used hd, ?_, fun p5 h5 => ?_⟩
    · rw [List.length_append, List.length_append, lenN, lenN]
      exact Nat.le_trans (show 2 + (Vbexac.tin v.s d).laid.length + 1 + (Vbexac.tin v.s d).used.length ≤ 3000000 by omega) (by decide)
    refine k.fin W4 (X1.trans (X2.trans (X3.trans X4))) rfl rfl h5 ?_
    unfold Vbexac.listed
    have l1 : (Vbexac.ints (Vbexac.tin v.s d).laid).length = (Vbexac.tin v.s d).laid.length := by unfold Vbexac.ints; rw [List.length_map]
    have l2 : (Vbexac.ints (Vbexac.tin v.s d).used).length = (Vbexac.tin v.s d).used.length := by unfold Vbexac.ints; rw [List.length_map]
    rw [l1, l2, List.map_cons, List.map_append, List.map_cons, List.map_cons, ints_map, ints_map]
    simp
theorem ok_call_message {f : Addr} {fd : FuncData} (F : Fun K "call_message" "call_message" s_call_message f fd) (T : Txt K mg C) : FnOk P w K mg base CX0 1 f fd ["world", "m"] (sp_call_message C) := by
  refine F.ok sc_call_message (fun vs H Q E h => ?_) (fun cdv A outer s H vs Q E hr h => ?_)
  · obtain ⟨v, n, W, rfl, k⟩ := h
    rfl
  · obtain ⟨v, n, W, rfl, k⟩ := h
    refine ⟨_, (pss_cons (ps_if (pt_cmpR op_ge (pv 1) (pe_callB call_len_seq (by rfl) T.b_len PySem.boot_len (pa_cons (pf T.cW (T.nW _ (by decide +kernel)) (pv 0)) pa_nil)) (nomark _)) (pss_one (ps_ret (pe_lst (pa_cons pe_neg pa_nil)))) pss_nil)
      (pss_cons (ps_set (i := 2) sc_call_message.nd rfl (Or.inl rfl) (pe_ix ix_seq (pf T.cW (T.nW _ (by decide +kernel)) (pv 0)) (pv 1) (fun _ _ => rfl)))
      (pss_one (ps_ret (pe_lst (pa_cons (pf T.cM (T.nM _ (by decide +kernel)) (pv 2)) (pa_cons (pf T.cM (T.nM _ (by decide +kernel)) (pv 2)) (pa_cons (pf T.cM (T.nM _ (by decide +kernel)) (pv 2)) (pa_cons (pf T.cM (T.nM _ (by decide +kernel)) (pv 2)) (pa_cons (pf T.cM (T.nM _ (by decide +kernel)) (pv 2)) (pa_cons (pf T.cM (T.nM _ (by decide +kernel)) (pv 2)) pa_nil))))))))))), ?_⟩
    refine ⟨_, rfl, _, rfl, _, _, _, _, rfl, W.world, rfl, _, _, rfl, .inl (SqL.of W.lm), _, _, rfl, rfl, _, rfl, ?_⟩
    rw [refsV_len]
    refine ite2 (fun h => ?_) (fun h => ?_)
    · have h := of_decide_eq_true h
      rw [show Vbexac.act v.s (.message n) = (v.s, [-4]) by unfold Vbexac.act; simp only [Int.toNat_natCast]; rw [List.getElem?_eq_none (by omega)]] at k
      exact ⟨one_le, fun p hp => k.fin W Ext.refl rfl rfl hp rfl⟩
    have hn : n < v.s.air.length := by
      have : ¬ (v.s.air.length : Int) ≤ (n : Int) := fun z => h (decide_eq_true z)
      omega
    obtain ⟨m, hm⟩ : ∃ m, v.s.air[n]? = some m := ⟨_, List.getElem?_eq_getElem hn⟩
    rw [show Vbexac.act v.s (.message n) = (v.s, [(m.kind : Int), m.sender, m.to, m.id, m.depot, m.food]) by unfold Vbexac.act; simp only [Int.toNat_natCast]; rw [hm]] at k
    refine ⟨_, rfl, _, _, _, _, rfl, W.world, rfl, _, rfl, .inl ⟨_, _, _, _, rfl, rfl, SqL.of W.lm, atI_nat (refsV_get hn), ?_⟩⟩
    exact ⟨_, rfl, _, _, _, _, rfl, W.msg hm, rfl, _, rfl, _, _, _, _, rfl, W.msg hm, rfl, _, rfl, _, _, _, _, rfl, W.msg hm, rfl, _, rfl, _, _, _, _, rfl, W.msg hm, rfl, _, rfl, _, _, _, _, rfl, W.msg hm, rfl, _, rfl, _, _, _, _, rfl, W.msg hm, rfl, six_le, fun p hp => k.fin W Ext.refl rfl rfl hp rfl⟩
theorem ok_call_air {f : Addr} {fd : FuncData} (F : Fun K "call_air" "call_air" s_call_air f fd) (T : Txt K mg C) : FnOk P w K mg base CX0 1 f fd ["world"] (sp_call_air C) := by
  refine F.ok sc_call_air (fun vs H Q E h => ?_) (fun cdv A outer s H vs Q E hr h => ?_)
  · obtain ⟨v, W, rfl, el, Z, k⟩ := h
    rfl
  · obtain ⟨v, W, rfl, el, Z, k⟩ := h
    refine ⟨_, (pss_one (ps_ret (pe_op op_cat (pe_lst (pa_cons (pe_callB call_len_seq (by rfl) T.b_len PySem.boot_len (pa_cons (pf T.cW (T.nW _ (by decide +kernel)) (pv 0)) pa_nil)) (pa_cons (pf T.cW (T.nW _ (by decide +kernel)) (pv 0)) (pa_cons (pf T.cW (T.nW _ (by decide +kernel)) (pv 0)) pa_nil)))) (pe_lc (own := [("party", 1)]) rfl sc_call_air.nd (pi_list (pf T.cW (T.nW _ (by decide +kernel)) (pv 0))) (blkOk_by (by rfl)) (fun _ _ _ _ _ => (pg_name (i := 1) sc_call_air.nd rfl (Or.inl rfl))) (fun _ _ _ _ _ => pts_nil) (fun _ _ _ _ _ => (pf T.cP (T.nP _ (by decide +kernel)) (pv 1))))))), ?_⟩
    rw [show Vbexac.act v.s .air = (v.s, [(v.s.air.length : Int), armedI v.s.armed, (v.s.laid : Int)] ++ Vbexac.ints v.s.eaten) by unfold Vbexac.act armedI; cases v.s.armed <;> rfl] at k
    refine ⟨_, rfl, _, _, _, _, rfl, W.world, rfl, _, _, rfl, .inl (SqL.of W.lm), _, rfl, _, _, _, _, rfl, W.world, rfl, _, rfl, _, _, _, _, rfl, W.world, rfl, three_le, fun p1 h1 => ?_⟩
    rw [refsV_len]
    obtain ⟨W1, X1⟩ := W.laidNew (o := .lst [V.int v.s.air.length, V.int (armedI v.s.armed), V.int v.s.laid]) h1
    refine ⟨_, rfl, _, _, _, _, rfl, W1.world, rfl, _, rfl, ⟨_, SqL.of W1.lp⟩, fun D hD => ?_⟩
    have nD := W1.new hD
    have n1D : p1 ≠ D := ne_of_none upd_same hD
    refine lc_list (K := K) (a := v.G .lp) (xs := refsV v.s.papers.length fun j => v.G (.party j))
      (fun j H' => H' = upd (upd H p1 (.lst [V.int v.s.air.length, V.int (armedI v.s.armed), V.int v.s.laid])) D (.lst (natsV (v.s.eaten.take j)))) rfl (fun j H' _ e => by rw [e]; exact SqL.of ((W1.other nD).lp)) ?_ ?_
    · rintro j y H' hy rfl
      obtain ⟨hj, rfl⟩ := refsV_of hy
      have W2 := W1.other (o := .lst (natsV (v.s.eaten.take j))) nD
      refine ⟨rfl, ?_⟩
      refine tYes_do ?_
      refine ⟨_, rfl, _, _, _, _, rfl, W2.party hj, rfl, _, upd_same, ?_, ?_⟩
      · unfold natsV
        rw [List.length_map, List.length_take]
        have := Z.pa
        exact Nat.lt_of_le_of_lt (show _ ≤ 6 by omega) (by decide)
      · have q : v.s.eaten[j]? = some (v.s.eaten.getD j 0) := by
          rw [List.getD_eq_getElem?_getD, List.getElem?_eq_getElem (by omega)]; rfl
        rw [upd_upd, List.take_add_one, q]
        unfold natsV
        rw [List.map_append]
        rfl
    · rintro H' rfl
      rw [refsV_len, ← el, List.take_length]
      have W3 := W1.other (o := .lst (natsV v.s.eaten)) nD
      have X3 : Ext C v _ v (upd (upd H p1 (.lst [V.int v.s.air.length, V.int (armedI v.s.armed), V.int v.s.laid])) D (.lst (natsV v.s.eaten))) := (W1.laidNew hD).2
      refine ⟨_, _, _, _, rfl, rfl, (by rw [upd_ne n1D, upd_same]), upd_same, ?_, fun p hp => k.fin W3 (X1.trans X3) rfl rfl hp ?_⟩
      · unfold natsV
        rw [List.length_map, el]
        have := Z.pa
        exact Nat.le_trans (show 3 + v.s.papers.length ≤ 9 by omega) (by decide)
      · rw [List.map_append, ints_map]; rfl
theorem ok_call_counts {f : Addr} {fd : FuncData} (F : Fun K "call_counts" "call_counts" s_call_counts f fd) (T : Txt K mg C) : FnOk P w K mg base CX0 1 f fd ["world", "party", "d"] (sp_call_counts C) := by
  refine F.ok sc_call_counts (fun vs H Q E h => ?_) (fun cdv A outer s H vs Q E hr h => ?_)
  · obtain ⟨v, i, d, W, rfl, hi, Z, k⟩ := h
    rfl
  · obtain ⟨v, i, d, W, rfl, hi, Z, k⟩ := h
    refine ⟨_, (pss_cons (ps_if (pt_cmpR op_ge (pv 2) (pe_callB call_len_seq (by rfl) T.b_len PySem.boot_len (pa_cons (pf T.cW (T.nW _ (by decide +kernel)) (pv 0)) pa_nil)) (nomark _)) (pss_one (ps_ret (pe_lst (pa_cons pe_neg pa_nil)))) pss_nil)
      (pss_one (ps_ret (pe_lst (pa_cons (pe_callB (cr_sum rfl) (by rfl) T.b_sum PyProof.Rows.boot_sum (pa_cons (pe_lc (own := [("entry", 3)]) rfl sc_call_counts.nd (pi_list (pf T.cP (T.nP _ (by decide +kernel)) (pv 1))) (blkOk_by (by rfl)) (fun _ _ _ _ _ => (pg_name (i := 3) sc_call_counts.nd rfl (Or.inl rfl))) (fun _ _ _ _ _ => pts_one (pw_and (pt_cmpR op_eq (pf T.cE (T.nE _ (by decide +kernel)) (pv 3)) (pv 2) (nomark _)) (pw_and1 (pt_cmpR op_eq (pf T.cE (T.nE _ (by decide +kernel)) (pv 3)) (pe_gc T.g_HELD) (nomark _)))).pt) (fun _ _ _ _ _ => (pf T.cE (T.nE _ (by decide +kernel)) (pv 3)))) pa_nil)) pa_nil))))), ?_⟩
    refine ⟨_, rfl, _, rfl, _, _, _, _, rfl, W.world, rfl, _, _, rfl, .inl (SqL.of W.lt), _, _, rfl, rfl, _, rfl, ?_⟩
    rw [refsV_len]
    refine ite2 (fun h => ?_) (fun h => ?_)
    · rw [show Vbexac.act v.s (.counts i d) = (v.s, [-4]) by unfold Vbexac.act; simp only []; rw [ofParty_nat hi, if_pos (of_decide_eq_true h)]] at k
      exact ⟨one_le, fun p hp => k.fin W Ext.refl rfl rfl hp rfl⟩
    have hd : d < v.s.tins.length := by
      have : ¬ (v.s.tins.length : Int) ≤ (d : Int) := fun z => h (decide_eq_true z)
      omega
    rw [show Vbexac.act v.s (.counts i d) = (v.s, [(Vbexac.countsOn v.s i d : Int)]) by unfold Vbexac.act; simp only []; rw [ofParty_nat hi, if_neg (by omega), Int.toNat_natCast]] at k
    refine ⟨_, rfl, _, _, _, _, rfl, W.party hi, rfl, _, rfl, ⟨_, SqL.of (W.elist hi)⟩, fun D hD => ?_⟩
    have nD := W.new hD
    refine lc_list (K := K) (a := v.G (.elist i)) (xs := refsV (Vbexac.paper v.s i).entries.length fun j => v.G (.entry i j))
      (fun j H' => H' = upd H D (.lst (((((Vbexac.paper v.s i).entries.take j).filter fun e => e.depot == d && Vbexac.is e.mark .held).map fun e => (e.food : Int)).map V.int))) rfl (fun j H' _ e => by rw [e]; exact SqL.of ((W.other nD).elist hi)) ?_ ?_
    · rintro j y H' hy rfl
      obtain ⟨hj, rfl⟩ := refsV_of hy
      obtain ⟨e, he⟩ : ∃ e, (Vbexac.paper v.s i).entries[j]? = some e := ⟨_, List.getElem?_eq_getElem hj⟩
      have W' := W.other (o := .lst (((((Vbexac.paper v.s i).entries.take j).filter fun e => e.depot == d && Vbexac.is e.mark .held).map fun e => (e.food : Int)).map V.int)) nD
      refine ⟨rfl, ?_⟩
      have no : ¬ (e.depot == d && Vbexac.is e.mark .held) = true → upd H D (.lst (((((Vbexac.paper v.s i).entries.take j).filter fun e => e.depot == d && Vbexac.is e.mark .held).map fun e => (e.food : Int)).map V.int)) = upd H D (.lst (((((Vbexac.paper v.s i).entries.take (j + 1)).filter fun e => e.depot == d && Vbexac.is e.mark .held).map fun e => (e.food : Int)).map V.int)) := fun hn => by
        rw [filter_take_succ he, if_neg hn, List.append_nil]
      refine ⟨_, rfl, _, _, _, _, rfl, W'.entry he, rfl, _, rfl, rfl, _, rfl, ?_⟩
      refine ite2 (fun h1 => ?_) (fun h1 => ?_)
      · have d1 : e.depot = d := by
          have := of_decide_eq_true h1
          simp at this
          omega
        refine ⟨_, rfl, _, _, _, _, rfl, W'.entry he, rfl, rfl, _, rfl, ?_⟩
        refine ite2 (fun h2 => ?_) (fun h2 => ?_)
        · have m1 : e.mark = .held := by
            refine markN_inj ?_
            have := of_decide_eq_true h2
            simp at this
            show Vbexac.markNumber e.mark = 0
            omega
          refine ⟨_, rfl, _, _, _, _, rfl, W'.entry he, rfl, _, upd_same, ?_, ?_⟩
          · rw [List.length_map, List.length_map]
            refine line_lt (Nat.le_trans (List.length_filter_le _ _) ?_)
            rw [List.length_take]
            have := Z.en i
            omega
          · rw [upd_upd, filter_take_succ he, if_pos (by rw [d1, m1]; simp [Vbexac.is]), List.map_append, List.map_append]
            rfl
        · refine no fun z => h2 ?_
          rw [Bool.and_eq_true] at z
          exact decide_eq_true (by rw [is_iff.mp z.2]; rfl)
      · refine iteF ?_
        refine no fun z => h1 ?_
        rw [Bool.and_eq_true, beq_iff_eq] at z
        exact decide_eq_true (by rw [z.1])
    · rintro H' rfl
      rw [refsV_len, List.take_length]
      obtain ⟨W2, X2⟩ := W.laidNew (o := .lst ((((Vbexac.paper v.s i).entries.filter fun e => e.depot == d && Vbexac.is e.mark .held).map fun e => (e.food : Int)).map V.int)) hD
      refine ⟨_, _, rfl, SqL.of upd_same, one_le, fun p hp => k.fin W2 X2 rfl rfl hp ?_⟩
      rw [sum_cast]
      rfl
end
end RF
end
section
set_option linter.all false
set_option Elab.async false
set_option maxRecDepth 100000
set_option maxHeartbeats 4000000
namespace RF
open PySem PySem.Spec PyProof.Rows L2
def refA (v : Vw) (l : List (Nat × (Vbexac.Entry × Nat))) : List V := l.map fun y => V.ref (v.G (.entry y.1 y.2.2))
theorem refA_append (v : Vw) (a b : List (Nat × (Vbexac.Entry × Nat))) : refA v (a ++ b) = refA v a ++ refA v b := by unfold refA; rw [List.map_append]
theorem refA_one (v : Vw) (i : Nat) (l : List (Vbexac.Entry × Nat)) : refA v (l.map fun x => (i, x)) = refE v i l := by unfold refA refE; rw [List.map_map]; rfl
theorem allE_filter {s : Vbexac.St} {n : Nat} (q : Vbexac.Entry → Bool) : (allE s (n + 1)).filter (fun y => q y.2.1) = (allE s n).filter (fun y => q y.2.1) ++ ((ents s n).filter fun x => q x.1).map fun x => (n, x) := by
  rw [allE_succ, List.filter_append, List.filter_map]; rfl
def sp_is_alive (C : Cs) : Sp := fun vs H Q _ => ∃ (v : Vw) (d i j : Nat) (e : Vbexac.Entry), At C v H ∧ vs = [.ref (v.G (.tin d)), .ref (v.G (.entry i j))] ∧ d < v.s.tins.length ∧ (Vbexac.paper v.s i).entries[j]? = some e ∧ e.depot = d ∧ Q (.bl (Vbexac.alive v.s e)) H
def sp_is_under_way (C : Cs) : Sp := fun vs H Q _ => ∃ (v : Vw) (i j : Nat) (e : Vbexac.Entry), At C v H ∧ vs = [.ref (v.G .world), .ref (v.G (.entry i j))] ∧ (Vbexac.paper v.s i).entries[j]? = some e ∧ e.other < v.s.papers.length ∧ Q (.bl (Vbexac.underWay v.s e)) H
def sp_entries_of_depot (C : Cs) : Sp := fun vs H Q _ => ∃ (v : Vw) (d : Nat), At C v H ∧ vs = [.ref (v.G .world), .int d] ∧ Small v.s ∧
  ∀ H' p, H p = none → (∀ b o, H b = some o → H' b = some o) → H' p = some (.lst (refA v ((allE v.s v.s.papers.length).filter fun y => y.2.1.depot == d))) → Q (.ref p) H'
def sp_call_audit (C : Cs) : Sp := fun vs H Q _ => ∃ (v : Vw) (d : Nat), At C v H ∧ vs = [.ref (v.G .world), .int d] ∧ Inv v.s ∧ Small v.s ∧ Done C v H (Vbexac.act v.s (.audit d)) Q
section
variable {P : Program} {w : World} {K : PySem.W.Frag} {mg : Str → Option Value} {base : Heap} {C : Cs}
theorem mark_is {a m : Vbexac.Mark} {n : Int} (en : n = (Vbexac.markNumber m : Int)) : decide (V.int (Vbexac.markNumber a : Nat) = V.int n) = Vbexac.is a m := by
  rw [Bool.eq_iff_iff, decide_eq_true_iff, en, is_iff]
  constructor
  · intro z
    injection z with z
    exact markN_inj (by omega)
  · intro z
    rw [z]
theorem alive_laying {s : Vbexac.St} {e : Vbexac.Entry} (h : e.mark = .laying) : Vbexac.alive s e = (Vbexac.tin s e.depot).laid.contains e.id := by
  unfold Vbexac.alive
  rw [h]
  simp [Vbexac.is, Vbexac.markNumber]
theorem alive_using {s : Vbexac.St} {e : Vbexac.Entry} (h : e.mark = .using) : Vbexac.alive s e = !(Vbexac.tin s e.depot).used.contains e.id := by
  unfold Vbexac.alive
  rw [h]
  simp [Vbexac.is, Vbexac.markNumber]
theorem alive_else {s : Vbexac.St} {e : Vbexac.Entry} (h1 : ¬ Vbexac.is e.mark .laying = true) (h2 : ¬ Vbexac.is e.mark .using = true) : Vbexac.alive s e = Vbexac.is e.mark .held := by
  unfold Vbexac.alive
  rw [Bool.not_eq_true] at h1 h2
  rw [h1, h2]
  simp
theorem ok_is_alive {f : Addr} {fd : FuncData} (F : Fun K "is_alive" "is_alive" s_is_alive f fd) (T : Txt K mg C) : FnOk P w K mg base CX0 1 f fd ["tin", "entry"] (sp_is_alive C) := by
  refine F.ok sc_is_alive (fun vs H Q E h => ?_) (fun cdv A outer s H vs Q E hr h => ?_)
  · obtain ⟨v, d, i, j, e, W, rfl, hd, he, hed, k⟩ := h
    rfl
  · obtain ⟨v, d, i, j, e, W, rfl, hd, he, hed, k⟩ := h
    refine ⟨_, (pss_cons (ps_if (pt_cmpR op_eq (pf T.cE (T.nE _ (by decide +kernel)) (pv 1)) (pe_gc T.g_BEING_LAID) (nomark _)) (pss_one (ps_ret (pe_cmpR op_in_seq (pf T.cE (T.nE _ (by decide +kernel)) (pv 1)) (pf T.cT (T.nT _ (by decide +kernel)) (pv 0)) (by rfl)))) pss_nil)
      (pss_cons (ps_if (pt_cmpR op_eq (pf T.cE (T.nE _ (by decide +kernel)) (pv 1)) (pe_gc T.g_BEING_USED) (nomark _)) (pss_one (ps_ret (pe_cmpR op_notIn_seq (pf T.cE (T.nE _ (by decide +kernel)) (pv 1)) (pf T.cT (T.nT _ (by decide +kernel)) (pv 0)) (by rfl)))) pss_nil)
      (pss_one (ps_ret (pe_cmpR op_eq (pf T.cE (T.nE _ (by decide +kernel)) (pv 1)) (pe_gc T.g_HELD) (nomark _)))))), ?_⟩
    refine ⟨_, rfl, _, _, _, _, rfl, W.entry he, rfl, rfl, _, rfl, ?_⟩
    refine ite2 (fun h => ?_) (fun h => ?_)
    · rw [mark_is (m := .laying) (n := 1) rfl] at h
      rw [alive_laying (is_iff.mp h), hed] at k
      refine ⟨_, rfl, _, _, _, _, rfl, W.entry he, rfl, _, rfl, _, _, _, _, rfl, W.tin hd, rfl, _, _, rfl, .inl (SqL.of (W.laid hd)), rfl, nats_flat _, ?_⟩
      show Q (.bl (inV (.int e.id) (natsV (Vbexac.tin v.s d).laid))) H
      rw [inM_nats]
      exact k
    rw [mark_is (m := .laying) (n := 1) rfl] at h
    refine ⟨_, rfl, _, _, _, _, rfl, W.entry he, rfl, rfl, _, rfl, ?_⟩
    refine ite2 (fun h1 => ?_) (fun h1 => ?_)
    · rw [mark_is (m := .using) (n := 4) rfl] at h1
      rw [alive_using (is_iff.mp h1), hed] at k
      refine ⟨_, rfl, _, _, _, _, rfl, W.entry he, rfl, _, rfl, _, _, _, _, rfl, W.tin hd, rfl, _, _, rfl, .inl (SqL.of (W.used hd)), rfl, nats_flat _, ?_⟩
      show Q (.bl (!inV (.int e.id) (natsV (Vbexac.tin v.s d).used))) H
      rw [inM_nats]
      exact k
    rw [mark_is (m := .using) (n := 4) rfl] at h1
    rw [alive_else h h1] at k
    refine ⟨_, rfl, _, _, _, _, rfl, W.entry he, rfl, rfl, ?_⟩
    show Q (.bl (decide (V.int (Vbexac.markNumber e.mark : Nat) = V.int 0))) H
    rw [mark_is (m := .held) (n := 0) rfl]
    exact k
theorem ok_is_under_way {f : Addr} {fd : FuncData} (F : Fun K "is_under_way" "is_under_way" s_is_under_way f fd) (T : Txt K mg C)
    (F_Party_entry_of : Mt P w K mg base C.P "entry_of" 1 ["self", "number"] (sp_Party_entry_of C)) : FnOk P w K mg base CX0 2 f fd ["world", "entry"] (sp_is_under_way C) := by
  refine F.ok sc_is_under_way (fun vs H Q E h => ?_) (fun cdv A outer s H vs Q E hr h => ?_)
  · obtain ⟨v, i, j, e, W, rfl, he, ho, k⟩ := h
    rfl
  · obtain ⟨v, i, j, e, W, rfl, he, ho, k⟩ := h
    refine ⟨_, (pss_cons (ps_if (pt_cmpR op_ne (pf T.cE (T.nE _ (by decide +kernel)) (pv 1)) (pe_gc T.g_GIVEN) (nomark _)) (pss_one (ps_ret pe_bl)) pss_nil)
      (pss_cons (ps_set (i := 2) sc_is_under_way.nd rfl (Or.inl rfl) (pe_mt F_Party_entry_of (hr.mono (by decide)) (pe_ix ix_seq (pf T.cW (T.nW _ (by decide +kernel)) (pv 0)) (pf T.cE (T.nE _ (by decide +kernel)) (pv 1)) (fun _ _ => rfl)) (pa_cons (pf T.cE (T.nE _ (by decide +kernel)) (pv 1)) pa_nil)))
      (pss_one (ps_ret (pe_or (pe_cmp (pc_isN (pv 2))) (pe_one (pe_cmpR op_eq (pf T.cE (T.nE _ (by decide +kernel)) (pv 2)) (pe_gc T.g_REFUSED) (nomark _)))))))), ?_⟩
    refine ⟨_, rfl, _, _, _, _, rfl, W.entry he, rfl, rfl, _, rfl, ?_⟩
    refine ite2 (fun h => ?_) (fun h => ?_)
    · have h : ¬ Vbexac.is e.mark .out = true := fun z => by
        rw [mark_is (m := .out) (n := 2) rfl, z] at h
        cases h
      rw [show Vbexac.underWay v.s e = false by
        unfold Vbexac.underWay
        rw [Bool.not_eq_true] at h
        rw [h]; rfl] at k
      exact k
    have hm : Vbexac.is e.mark .out = true := by
      rw [mark_is (m := .out) (n := 2) rfl] at h
      cases q : Vbexac.is e.mark .out with
      | true => rfl
      | false => exact absurd (by rw [q]; rfl) h
    refine ⟨_, rfl, _, _, _, _, rfl, W.world, rfl, _, rfl, _, _, _, _, rfl, W.entry he, rfl, .inl ⟨_, _, _, _, rfl, rfl, SqL.of W.lp, atI_nat (refsV_get ho), ?_⟩⟩
    refine ⟨_, _, _, rfl, W.party ho, rfl, _, rfl, _, _, _, _, rfl, W.entry he, rfl, ?_⟩
    refine ⟨v, e.other, e.id, W, rfl, ho, fun j' e' he' hf => ?_, fun hf => ?_⟩
    · rw [show Vbexac.underWay v.s e = Vbexac.is e'.mark .refused by
        unfold Vbexac.underWay
        rw [hm, hf]; rfl] at k
      refine ⟨_, rfl, _, rfl, ?_⟩
      refine iteF ?_
      refine ⟨_, rfl, _, _, _, _, rfl, W.entry he', rfl, rfl, ?_⟩
      show Q (.bl (decide (V.int (Vbexac.markNumber e'.mark : Nat) = V.int 7))) H
      rw [mark_is (m := .refused) (n := 7) rfl]
      exact k
    · rw [show Vbexac.underWay v.s e = true by
        unfold Vbexac.underWay
        rw [hm, hf]; rfl] at k
      refine ⟨_, rfl, _, rfl, ?_⟩
      exact iteT k
theorem ok_entries_of_depot {f : Addr} {fd : FuncData} (F : Fun K "entries_of_depot" "entries_of_depot" s_entries_of_depot f fd) (T : Txt K mg C) : FnOk P w K mg base CX0 1 f fd ["world", "d"] (sp_entries_of_depot C) := by
  refine F.ok sc_entries_of_depot (fun vs H Q E h => ?_) (fun cdv A outer s H vs Q E hr h => ?_)
  · obtain ⟨v, d, W, rfl, Z, k⟩ := h
    rfl
  · obtain ⟨v, d, W, rfl, Z, k⟩ := h
    refine ⟨_, (pss_cons (ps_set (i := 2) sc_entries_of_depot.nd rfl (Or.inl rfl) (pe_lst pa_nil))
      (pss_cons (ps_for PassesOwn.never rfl (pi_list (pf T.cW (T.nW _ (by decide +kernel)) (pv 0))) (pg_name (i := 3) sc_entries_of_depot.nd rfl (Or.inl rfl)) (pss_one (ps_expr (pe_bm PySem.F.plainAttrs_list PySem.F.slot_list_extend PySem.F.type_list_extend mt_extend (pv 2) (pa_cons (pe_lc (own := [("entry", 4)]) rfl sc_entries_of_depot.nd (pi_list (pf T.cP (T.nP _ (by decide +kernel)) (pv 3))) (blkOk_by (by rfl)) (fun _ _ _ _ _ => (pg_name (i := 4) sc_entries_of_depot.nd rfl (Or.inl rfl))) (fun _ _ _ _ _ => pts_one (pt_cmpR op_eq (pf T.cE (T.nE _ (by decide +kernel)) (pv 4)) (pv 1) (nomark _))) (fun _ _ _ _ _ => (pv 4))) pa_nil)))))
      (pss_one (ps_ret (pv 2))))), ?_⟩
    have en := Z.en
    have pa := Z.pa
    have lenA : ∀ n, n ≤ v.s.papers.length → ((allE v.s n).filter fun y => y.2.1.depot == d).length ≤ n * 1000000 := fun n _ => Nat.le_trans (List.length_filter_le _ _) (allE_len en n)
    refine ⟨Nat.zero_le _, fun tl htl => ?_⟩
    have ntl := W.new htl
    have W1 := W.other (o := .lst []) ntl
    refine ⟨_, rfl, _, _, _, _, rfl, W1.world, rfl, _, rfl, ⟨_, SqL.of W1.lp⟩, for_list (K := K) (a := v.G .lp) (xs := refsV v.s.papers.length fun j => v.G (.party j))
      (fun n σ H' => ∃ x y, σ = [some (.ref (v.G .world)), some (.int d), some (.ref tl), x, y] ∧ (∀ b o, H b = some o → H' b = some o) ∧ H' tl = some (.lst (refA v ((allE v.s n).filter fun y => y.2.1.depot == d))))
      ⟨none, none, rfl, fun b o hb => by rw [upd_ne (ne_of_none hb htl)]; exact hb, upd_same⟩ (fun n σ H' _ ⟨_, _, _, sm, _⟩ => SqL.of (W.more sm).1.lp) ?_ ?_⟩
    · rintro n y σ H' hy ⟨x, y', rfl, sm, t'⟩
      obtain ⟨hn, rfl⟩ := refsV_of hy
      have W' := (W.more sm).1
      refine ⟨_, rfl, .inl ⟨rfl, _, SqL.of t'⟩, ?_⟩
      refine ⟨_, rfl, _, _, _, _, rfl, W'.party hn, rfl, _, rfl, ⟨_, SqL.of (W'.elist hn)⟩, fun D hD => ?_⟩
      have nD := W'.new hD
      have ntD : tl ≠ D := ne_of_none t' hD
      have lenE : (ents v.s n).length = (Vbexac.paper v.s n).entries.length := List.length_zipIdx
      refine lc_list (K := K) (a := v.G (.elist n)) (xs := refsV (Vbexac.paper v.s n).entries.length fun j => v.G (.entry n j))
        (fun j H2 => H2 = upd H' D (.lst (refE v n (((ents v.s n).take j).filter fun x => x.1.depot == d)))) rfl (fun j H2 _ e => by rw [e]; exact SqL.of ((W'.other nD).elist hn)) ?_ ?_
      · rintro j y H2 hy rfl
        obtain ⟨hj, rfl⟩ := refsV_of hy
        obtain ⟨e, he⟩ : ∃ e, (Vbexac.paper v.s n).entries[j]? = some e := ⟨_, List.getElem?_eq_getElem hj⟩
        have hx : (ents v.s n)[j]? = some (e, j) := by
          unfold ents
          rw [List.getElem?_zipIdx, he]
          simp
        have W2 := W'.other (o := .lst (refE v n (((ents v.s n).take j).filter fun x => x.1.depot == d))) nD
        refine ⟨rfl, ?_⟩
        refine ⟨_, rfl, _, _, _, _, rfl, W2.entry he, rfl, _, rfl, rfl, _, rfl, ?_⟩
        refine ite2 (fun h => ?_) (fun h => ?_)
        · refine ⟨_, rfl, _, upd_same, ?_, ?_⟩
          · unfold refE
            rw [List.length_map]
            refine line_lt (Nat.le_trans (List.length_filter_le _ _) ?_)
            rw [List.length_take, lenE]
            have := en n
            omega
          · rw [upd_upd, filter_take_succ hx, if_pos (by
              have := of_decide_eq_true h
              simp at this
              rw [beq_iff_eq]
              show e.depot = d
              omega)]
            unfold refE
            rw [List.map_append]
            rfl
        · rw [filter_take_succ hx, if_neg (by
            intro z
            rw [beq_iff_eq] at z
            have z : e.depot = d := z
            exact h (decide_eq_true (by rw [z]))), List.append_nil]
      · rintro H2 rfl
        rw [refsV_len, show (ents v.s n).take (Vbexac.paper v.s n).entries.length = ents v.s n by rw [← lenE, List.take_length]]
        refine ⟨_, _, _, _, rfl, rfl, (by rw [upd_ne ntD]; exact t'), upd_same, ?_, _, _, rfl, fun b o hb => ?_, ?_⟩
        · unfold refA refE
          rw [List.length_map, List.length_map]
          have l1 := lenA n (by omega)
          have l2 : ((ents v.s n).filter fun x => x.1.depot == d).length ≤ 1000000 := Nat.le_trans (List.length_filter_le _ _) (by rw [lenE]; exact en n)
          have hn6 : n * 1000000 ≤ 6000000 := by omega
          exact Nat.le_trans (show _ ≤ 7000000 by omega) (by decide)
        · rw [upd_ne (ne_of_none hb htl), upd_ne (ne_of_none (sm b o hb) hD)]
          exact sm b o hb
        · rw [upd_same, allE_filter (fun e => e.depot == d), refA_append, refA_one]
    · rintro σ H' ⟨x, y', rfl, sm, t'⟩
      rw [refsV_len] at t'
      exact ⟨_, rfl, k H' tl htl sm t'⟩
theorem ok_call_audit {f : Addr} {fd : FuncData} (F : Fun K "call_audit" "call_audit" s_call_audit f fd) (T : Txt K mg C)
    (F_entries_of_depot : Fn P w K mg base "entries_of_depot" 1 ["world", "d"] (sp_entries_of_depot C))
    (F_is_alive : Fn P w K mg base "is_alive" 1 ["tin", "entry"] (sp_is_alive C))
    (F_is_under_way : Fn P w K mg base "is_under_way" 2 ["world", "entry"] (sp_is_under_way C)) : FnOk P w K mg base CX0 3 f fd ["world", "d"] (sp_call_audit C) := by
  refine F.ok sc_call_audit (fun vs H Q E h => ?_) (fun cdv A outer s H vs Q E hr h => ?_)
  · obtain ⟨v, d, W, rfl, I, Z, k⟩ := h
    rfl
  · obtain ⟨v, d, W, rfl, I, Z, k⟩ := h
    refine ⟨_, (pss_cons (ps_if (pt_cmpR op_ge (pv 1) (pe_callB call_len_seq (by rfl) T.b_len PySem.boot_len (pa_cons (pf T.cW (T.nW _ (by decide +kernel)) (pv 0)) pa_nil)) (nomark _)) (pss_one (ps_ret (pe_lst (pa_cons pe_neg pa_nil)))) pss_nil)
      (pss_cons (ps_set (i := 2) sc_call_audit.nd rfl (Or.inl rfl) (pe_ix ix_seq (pf T.cW (T.nW _ (by decide +kernel)) (pv 0)) (pv 1) (fun _ _ => rfl)))
      (pss_cons (ps_set (i := 3) sc_call_audit.nd rfl (Or.inl rfl) pe_int)
      (pss_cons (ps_set (i := 4) sc_call_audit.nd rfl (Or.inl rfl) pe_int)
      (pss_cons (ps_for PassesOwn.never rfl (pi_list (pe_fn F_entries_of_depot (hr.mono (by decide)) (pa_cons (pv 0) (pa_cons (pv 1) pa_nil)))) (pg_name (i := 5) sc_call_audit.nd rfl (Or.inl rfl)) (pss_cons (ps_if (pt_call (pe_fn F_is_alive (hr.mono (by decide)) (pa_cons (pv 2) (pa_cons (pv 5) pa_nil)))) (pss_one (ps_aug (i := 3) sc_call_audit.nd rfl (Or.inl rfl) (pf T.cE (T.nE _ (by decide +kernel)) (pv 5)) ip_add)) pss_nil)
      (pss_one (ps_if (pt_call (pe_fn F_is_under_way (hr.mono (by decide)) (pa_cons (pv 0) (pa_cons (pv 5) pa_nil)))) (pss_one (ps_aug (i := 4) sc_call_audit.nd rfl (Or.inl rfl) (pf T.cE (T.nE _ (by decide +kernel)) (pv 5)) ip_add)) pss_nil))))
      (pss_one (ps_ret (pe_lst (pa_cons (pv 3) (pa_cons (pv 4) (pa_cons (pf T.cT (T.nT _ (by decide +kernel)) (pv 2)) pa_nil))))))))))), ?_⟩
    refine ⟨_, rfl, _, rfl, _, _, _, _, rfl, W.world, rfl, _, _, rfl, .inl (SqL.of W.lt), _, _, rfl, rfl, _, rfl, ?_⟩
    rw [refsV_len]
    refine ite2 (fun h => ?_) (fun h => ?_)
    · rw [show Vbexac.act v.s (.audit d) = (v.s, [-3]) by unfold Vbexac.act; simp only []; rw [if_pos (of_decide_eq_true h)]] at k
      exact ⟨one_le, fun p hp => k.fin W Ext.refl rfl rfl hp rfl⟩
    have hd : d < v.s.tins.length := by
      have : ¬ (v.s.tins.length : Int) ≤ (d : Int) := fun z => h (decide_eq_true z)
      omega
    rw [show Vbexac.act v.s (.audit d) = (v.s, [((Vbexac.audit v.s d).1 : Int), ((Vbexac.audit v.s d).2.1 : Int), ((Vbexac.audit v.s d).2.2 : Int)]) by unfold Vbexac.act; simp only []; rw [if_neg (by omega), Int.toNat_natCast]] at k
    refine ⟨_, rfl, _, _, _, _, rfl, W.world, rfl, _, rfl, .inl ⟨_, _, _, _, rfl, rfl, SqL.of W.lt, atI_nat (refsV_get hd), ?_⟩⟩
    refine ⟨_, rfl, _, rfl, v, d, W, rfl, Z, fun H1 p hp sm hpl => ⟨_, rfl, ⟨_, SqL.of hpl⟩, ?_⟩⟩
    obtain ⟨W1, X1⟩ := W.more sm
    generalize hL : (allE v.s v.s.papers.length).filter (fun y => y.2.1.depot == d) = L at hpl
    have memL : ∀ y ∈ L, (Vbexac.paper v.s y.1).entries[y.2.2]? = some y.2.1 ∧ y.2.1.depot = d := fun y hy => by
      rw [← hL] at hy
      obtain ⟨h1, h2⟩ := List.mem_filter.mp hy
      exact ⟨(allE_mem h1).2, beq_iff_eq.mp h2⟩
    refine for_list (K := K) (a := p) (xs := refA v L) (fun n σ H' => ∃ x, H' = H1 ∧ σ = [some (.ref (v.G .world)), some (.int d), some (.ref (v.G (.tin d))), some (.int (Vbexac.sumFood (((L.take n).filter fun y => Vbexac.alive v.s y.2.1).map fun y => y.2.1) : Nat)), some (.int (Vbexac.sumFood (((L.take n).filter fun y => Vbexac.underWay v.s y.2.1).map fun y => y.2.1) : Nat)), x])
      ⟨none, rfl, rfl⟩ (fun n σ H' _ ⟨_, e, _⟩ => by rw [e]; exact SqL.of hpl) ?_ ?_
    · rintro n r σ H' hr' ⟨x, rfl, rfl⟩
      obtain ⟨y, hy, rfl⟩ : ∃ y, L[n]? = some y ∧ r = V.ref (v.G (.entry y.1 y.2.2)) := by
        unfold refA at hr'
        rw [List.getElem?_map] at hr'
        cases q : L[n]? with
        | none => rw [q] at hr'; cases hr'
        | some y => rw [q] at hr'; exact ⟨y, rfl, (Option.some.inj hr').symm⟩
      obtain ⟨he, hdep⟩ := memL y (List.mem_of_getElem? hy)
      have ho := I.st.ot y.1 y.2.1 (List.mem_of_getElem? he)
      have yes : ∀ g : Vbexac.Entry → Bool, g y.2.1 = true → Vbexac.sumFood (((L.take (n + 1)).filter fun y => g y.2.1).map fun y => y.2.1) = Vbexac.sumFood (((L.take n).filter fun y => g y.2.1).map fun y => y.2.1) + y.2.1.food := fun g hg => by
        rw [filter_take_succ (p := fun y : Nat × (Vbexac.Entry × Nat) => g y.2.1) hy, if_pos hg, List.map_append, sumFood_append]; rfl
      have no : ∀ g : Vbexac.Entry → Bool, ¬ g y.2.1 = true → Vbexac.sumFood (((L.take (n + 1)).filter fun y => g y.2.1).map fun y => y.2.1) = Vbexac.sumFood (((L.take n).filter fun y => g y.2.1).map fun y => y.2.1) := fun g hg => by
        rw [filter_take_succ (p := fun y : Nat × (Vbexac.Entry × Nat) => g y.2.1) hy, if_neg hg, List.append_nil]
      refine ⟨_, rfl, _, rfl, v, d, y.1, y.2.2, y.2.1, W1, rfl, hd, he, hdep, _, rfl, ?_⟩
      refine ite2 (fun h1 => ?_) (fun h1 => ?_)
      · refine ⟨_, rfl, _, rfl, _, _, _, _, rfl, W1.entry he, rfl, _, _, rfl, rfl, ?_⟩
        refine ⟨_, rfl, _, rfl, v, y.1, y.2.2, y.2.1, W1, rfl, he, ho, _, rfl, ?_⟩
        refine ite2 (fun h2 => ?_) (fun h2 => ?_)
        · refine ⟨_, rfl, _, rfl, _, _, _, _, rfl, W1.entry he, rfl, _, _, rfl, rfl, ?_⟩
          refine ⟨some (.ref (v.G (.entry y.1 y.2.2))), rfl, ?_⟩
          rw [yes (Vbexac.alive v.s) h1, yes (Vbexac.underWay v.s) h2, Int.natCast_add, Int.natCast_add]
          rfl
        · refine ⟨some (.ref (v.G (.entry y.1 y.2.2))), rfl, ?_⟩
          rw [yes (Vbexac.alive v.s) h1, no (Vbexac.underWay v.s) h2, Int.natCast_add]
          rfl
      · refine ⟨_, rfl, _, rfl, v, y.1, y.2.2, y.2.1, W1, rfl, he, ho, _, rfl, ?_⟩
        refine ite2 (fun h2 => ?_) (fun h2 => ?_)
        · refine ⟨_, rfl, _, rfl, _, _, _, _, rfl, W1.entry he, rfl, _, _, rfl, rfl, ?_⟩
          refine ⟨some (.ref (v.G (.entry y.1 y.2.2))), rfl, ?_⟩
          rw [no (Vbexac.alive v.s) h1, yes (Vbexac.underWay v.s) h2, Int.natCast_add]
          rfl
        · refine ⟨some (.ref (v.G (.entry y.1 y.2.2))), rfl, ?_⟩
          rw [no (Vbexac.alive v.s) h1, no (Vbexac.underWay v.s) h2]
          rfl
    · rintro σ H' ⟨x, rfl, rfl⟩
      have lr : (refA v L).length = L.length := by unfold refA; rw [List.length_map]
      rw [lr, List.take_length]
      have a1 : Vbexac.sumFood ((L.filter fun y => Vbexac.alive v.s y.2.1).map fun y => y.2.1) = (Vbexac.audit v.s d).1 := by
        rw [← hL, audit_alive]; rfl
      have a2 : Vbexac.sumFood ((L.filter fun y => Vbexac.underWay v.s y.2.1).map fun y => y.2.1) = (Vbexac.audit v.s d).2.1 := by
        rw [← hL, audit_alive]; rfl
      rw [a1, a2]
      exact ⟨_, rfl, _, rfl, _, rfl, _, _, _, _, rfl, W1.tin hd, rfl, three_le, fun q hq => k.fin W1 X1 rfl rfl hq rfl⟩
end
end RF
end
section
set_option linter.all false
set_option Elab.async false
set_option maxRecDepth 100000
set_option maxHeartbeats 4000000
namespace RF
open PySem PySem.Spec PyProof.Rows L2
/-- the gifts that are not settled, with their places -/
def gifts (s : Vbexac.St) : List (Nat × (Vbexac.Entry × Nat)) := (allE s s.papers.length).filter fun y => Vbexac.is y.2.1.mark .out
/-- a list of pairs: a party, an entry of it -/
def Gifts (v : Vw) (H H' : Hp) (tl : Addr) (L : List (Nat × (Vbexac.Entry × Nat))) : Prop := ∃ ts : List Addr, H' tl = some (.lst (ts.map V.ref)) ∧ ts.length = L.length ∧
  ∀ (n : Nat) (t : Addr) (y : Nat × (Vbexac.Entry × Nat)), ts[n]? = some t → L[n]? = some y → H t = none ∧ H' t = some (.tup [.ref (v.G (.party y.1)), .ref (v.G (.entry y.1 y.2.2))])
/-- the parties and entries that were there are where they were -/
structure Near (v v' : Vw) : Prop where
  w : v'.G .world = v.G .world
  p : ∀ q, q < v.s.papers.length → v'.G (.party q) = v.G (.party q)
  e : ∀ (q j : Nat) (y : Vbexac.Entry), (Vbexac.paper v.s q).entries[j]? = some y → v'.G (.entry q j) = v.G (.entry q j)
theorem heardBy_get {s : Vbexac.St} {p : Nat} {e : Vbexac.Entry} (ho : e.other < s.papers.length) {q j : Nat} {y : Vbexac.Entry} (hy : (Vbexac.paper s q).entries[j]? = some y) : (Vbexac.paper (heardBy s p e) q).entries[j]? = some y := by
  unfold heardBy
  cases Vbexac.entry s e.other e.id with
  | none =>
    simp only []
    show (Vbexac.paper (add (Vbexac.send s (gift p e)) e.other (Vbexac.paper s e.other).next { id := e.id, depot := e.depot, food := e.food, mark := .held, other := p }) q).entries[j]? = some y
    rw [add_paper (by exact ho)]
    split
    · rename_i z
      rw [← z]
      exact (List.getElem?_append_left (List.getElem?_eq_some_iff.mp hy).1).trans hy
    · exact hy
  | some _ => exact hy
theorem none_of {H H' : Hp} {t : Addr} (sm : ∀ b o, H b = some o → H' b = some o) (h : H' t = none) : H t = none := by
  cases q : H t with
  | none => rfl
  | some o => rw [sm t o q] at h; cases h
def sp_unsettled_gifts (C : Cs) : Sp := fun vs H Q _ => ∃ (v : Vw), At C v H ∧ vs = [.ref (v.G .world)] ∧ Small2 v.s ∧ ∀ H' p, H p = none → (∀ b o, H b = some o → H' b = some o) → Gifts v H H' p (gifts v.s) → Q (.ref p) H'
def sp_settle_gift (C : Cs) : Sp := fun vs H Q _ => ∃ (v : Vw) (i j : Nat) (e : Vbexac.Entry), At C v H ∧ vs = [.ref (v.G .world), .ref (v.G (.party i)), .ref (v.G (.entry i j))] ∧ i < v.s.papers.length ∧ (Vbexac.paper v.s i).entries[j]? = some e ∧ e.mark = .out ∧ Inv v.s ∧ v.s.armed = none ∧
  (∀ p, (Vbexac.paper v.s p).entries.length ≤ 1400000) ∧ v.s.air.length + 2 ≤ 400 ∧ v.s.papers.length ≤ 6 ∧ ∀ v' H', v'.s = roundStep v.s (i, e) → Near v v' → At C v' H' → Ext C v H v' H' → Q .non H'
def sp_call_clear (C : Cs) : Sp := fun vs H Q _ => ∃ (v : Vw), At C v H ∧ vs = [.ref (v.G .world)] ∧ Inv v.s ∧ Small v.s ∧ Done C v H (Vbexac.act v.s .clear) Q
section
variable {P : Program} {w : World} {K : PySem.W.Frag} {mg : Str → Option Value} {base : Heap} {C : Cs}
theorem ok_unsettled_gifts {f : Addr} {fd : FuncData} (F : Fun K "unsettled_gifts" "unsettled_gifts" s_unsettled_gifts f fd) (T : Txt K mg C) : FnOk P w K mg base CX0 1 f fd ["world"] (sp_unsettled_gifts C) := by
  refine F.ok sc_unsettled_gifts (fun vs H Q E h => ?_) (fun cdv A outer s H vs Q E hr h => ?_)
  · obtain ⟨v, W, rfl, Z, k⟩ := h
    rfl
  · obtain ⟨v, W, rfl, Z, k⟩ := h
    refine ⟨_, (pss_cons (ps_set (i := 1) sc_unsettled_gifts.nd rfl (Or.inl rfl) (pe_lst pa_nil))
      (pss_cons (ps_for PassesOwn.never rfl (pi_list (pf T.cW (T.nW _ (by decide +kernel)) (pv 0))) (pg_name (i := 2) sc_unsettled_gifts.nd rfl (Or.inl rfl)) (pss_one (ps_for PassesOwn.never rfl (pi_list (pf T.cP (T.nP _ (by decide +kernel)) (pv 2))) (pg_name (i := 3) sc_unsettled_gifts.nd rfl (Or.inl rfl)) (pss_one (ps_if (pt_cmpR op_eq (pf T.cE (T.nE _ (by decide +kernel)) (pv 3)) (pe_gc T.g_GIVEN) (nomark _)) (pss_one (ps_expr (pe_bm PySem.F.plainAttrs_list PySem.F.slot_list_append PySem.F.type_list_append mt_append (pv 1) (pa_cons (pe_tup (pa_cons (pv 2) (pa_cons (pv 3) pa_nil))) pa_nil)))) pss_nil)))))
      (pss_one (ps_ret (pv 1))))), ?_⟩
    have en := Z.en
    have pa := Z.pa
    refine ⟨Nat.zero_le _, fun tl htl => ?_⟩
    have W1 := W.other (o := .lst []) (W.new htl)
    refine ⟨_, rfl, _, _, _, _, rfl, W1.world, rfl, _, rfl, ⟨_, SqL.of W1.lp⟩, for_list (K := K) (a := v.G .lp) (xs := refsV v.s.papers.length fun j => v.G (.party j))
      (fun n σ H' => ∃ x y, σ = [some (.ref (v.G .world)), some (.ref tl), x, y] ∧ (∀ b o, H b = some o → H' b = some o) ∧ Gifts v H H' tl ((allE v.s n).filter fun y => Vbexac.is y.2.1.mark .out))
      ⟨none, none, rfl, fun b o hb => by rw [upd_ne (ne_of_none hb htl)]; exact hb, [], upd_same, rfl, fun n t y h => by cases h⟩ (fun n σ H' _ ⟨_, _, _, sm, _⟩ => SqL.of (W.more sm).1.lp) ?_ ?_⟩
    · rintro n y σ H' hy ⟨x, y', rfl, sm, g'⟩
      obtain ⟨hn, rfl⟩ := refsV_of hy
      have lenE : (ents v.s n).length = (Vbexac.paper v.s n).entries.length := List.length_zipIdx
      have W' := (W.more sm).1
      refine ⟨_, rfl, _, _, _, _, rfl, W'.party hn, rfl, _, rfl, ⟨_, SqL.of (W'.elist hn)⟩, for_list (K := K) (a := v.G (.elist n)) (xs := refsV (Vbexac.paper v.s n).entries.length fun j => v.G (.entry n j))
        (fun j σ H' => ∃ y, σ = [some (.ref (v.G .world)), some (.ref tl), some (.ref (v.G (.party n))), y] ∧ (∀ b o, H b = some o → H' b = some o) ∧ Gifts v H H' tl (((allE v.s n).filter fun y => Vbexac.is y.2.1.mark .out) ++ (((ents v.s n).take j).filter fun x => Vbexac.is x.1.mark .out).map fun x => (n, x)))
        ⟨y', rfl, sm, ?_⟩ (fun j σ H' _ ⟨_, _, sm, _⟩ => SqL.of ((W.more sm).1.elist hn)) ?_ ?_⟩
      · have : Gifts v H H' tl (((allE v.s n).filter fun y => Vbexac.is y.2.1.mark .out) ++ []) := by rw [List.append_nil]; exact g'
        exact this
      · rintro j y σ H2 hy ⟨y2, rfl, sm2, ts, t2, lt, all⟩
        obtain ⟨hj, rfl⟩ := refsV_of hy
        obtain ⟨e, he⟩ : ∃ e, (Vbexac.paper v.s n).entries[j]? = some e := ⟨_, List.getElem?_eq_getElem hj⟩
        have hx : (ents v.s n)[j]? = some (e, j) := by
          unfold ents
          rw [List.getElem?_zipIdx, he]
          simp
        have W2 := (W.more sm2).1
        refine ⟨_, rfl, _, _, _, _, rfl, W2.entry he, rfl, rfl, _, rfl, ?_⟩
        refine ite2 (fun h => ?_) (fun h => ?_)
        · rw [mark_is (m := .out) (n := 2) rfl] at h
          refine ⟨_, rfl, .inl ⟨rfl, _, SqL.of t2⟩, _, rfl, _, rfl, two_le, fun t ht => ?_⟩
          have ntl : tl ≠ t := ne_of_none t2 ht
          have ht0 := none_of sm2 ht
          have hl : (((ents v.s n).take (j + 1)).filter fun x => Vbexac.is x.1.mark .out).map (fun x => (n, x)) = (((ents v.s n).take j).filter fun x => Vbexac.is x.1.mark .out).map (fun x => (n, x)) ++ [(n, (e, j))] := by
            rw [filter_take_succ hx, if_pos h, List.map_append]; rfl
          refine ⟨_, _, _, rfl, rfl, (by rw [upd_ne ntl]; exact t2), ?_, _, rfl, fun b o hb => ?_, ?_⟩
          · rw [List.length_map, lt, List.length_append, List.length_map]
            have l1 : ((allE v.s n).filter fun y => Vbexac.is y.2.1.mark .out).length ≤ n * 1500000 := Nat.le_trans (List.length_filter_le _ _) (allE_len en n)
            have l2 : (((ents v.s n).take j).filter fun x => Vbexac.is x.1.mark .out).length ≤ 1500000 := Nat.le_trans (List.length_filter_le _ _) (by rw [List.length_take, lenE]; have := en n; omega)
            have hn6 : n * 1500000 ≤ 9000000 := by omega
            exact Nat.lt_of_le_of_lt (show _ ≤ 10500000 by omega) (by decide)
          · rw [upd_ne (ne_of_none hb htl), upd_ne (ne_of_none hb ht0)]
            exact sm2 b o hb
          rw [hl, ← List.append_assoc]
          refine ⟨ts ++ [t], ?_, ?_, fun m t' y' h1 h2 => ?_⟩
          · rw [upd_same, List.map_append]; rfl
          · rw [List.length_append (as := ts), lt, List.length_append (bs := [(n, (e, j))])]; rfl
          · rcases Nat.lt_or_ge m ts.length with z | z
            · rw [List.getElem?_append_left z] at h1
              rw [List.getElem?_append_left (by rw [← lt]; exact z)] at h2
              obtain ⟨a1, a2⟩ := all m t' y' h1 h2
              refine ⟨a1, ?_⟩
              have d1 : t' ≠ tl := fun q => by rw [q, t2] at a2; cases a2
              rw [upd_ne d1, upd_ne (ne_of_none a2 ht)]
              exact a2
            · rw [List.getElem?_append_right z] at h1
              rw [List.getElem?_append_right (by rw [← lt]; exact z), ← lt] at h2
              cases q : m - ts.length with
              | succ m' => rw [q] at h1; cases h1
              | zero =>
                rw [q] at h1 h2
                cases h1
                cases h2
                refine ⟨ht0, ?_⟩
                rw [upd_ne (Ne.symm ntl), upd_same]
        · rw [mark_is (m := .out) (n := 2) rfl] at h
          refine ⟨_, rfl, sm2, ?_⟩
          rw [filter_take_succ hx, if_neg h, List.append_nil]
          exact ⟨ts, t2, lt, all⟩
      · rintro σ H2 ⟨y2, rfl, sm2, g2⟩
        rw [refsV_len, show (ents v.s n).take (Vbexac.paper v.s n).entries.length = ents v.s n by rw [← lenE, List.take_length], ← allE_filter (fun e => Vbexac.is e.mark .out)] at g2
        exact ⟨_, _, rfl, sm2, g2⟩
    · rintro σ H' ⟨x, y', rfl, sm, g'⟩
      rw [refsV_len] at g'
      exact ⟨_, rfl, k H' tl htl sm g'⟩
theorem ok_settle_gift {f : Addr} {fd : FuncData} (F : Fun K "settle_gift" "settle_gift" s_settle_gift f fd) (T : Txt K mg C)
    (F_send_about : Fn P w K mg base "send_about" 3 ["world", "party", "given", "kind"] (sp_send_about C))
    (F_hear_message : Fn P w K mg base "hear_message" 5 ["world", "message"] (sp_hear_message C)) : FnOk P w K mg base CX0 6 f fd ["world", "party", "given"] (sp_settle_gift C) := by
  refine F.ok sc_settle_gift (fun vs H Q E h => ?_) (fun cdv A outer s H vs Q E hr h => ?_)
  · obtain ⟨v, i, j, e, W, rfl, hi, he, hm, I, ha, en, ai, pa, k⟩ := h
    rfl
  · obtain ⟨v, i, j, e, W, rfl, hi, he, hm, I, ha, en, ai, pa, k⟩ := h
    refine ⟨_, (pss_cons (ps_set (i := 3) sc_settle_gift.nd rfl (Or.inl rfl) (pe_fn F_send_about (hr.mono (by decide)) (pa_cons (pv 0) (pa_cons (pv 1) (pa_cons (pv 2) (pa_cons (pe_gc T.g_KIND_GIFT) pa_nil))))))
      (pss_cons (ps_set (i := 4) sc_settle_gift.nd rfl (Or.inl rfl) (pe_fn F_hear_message (hr.mono (by decide)) (pa_cons (pv 0) (pa_cons (pe_ix ix_seq (pf T.cW (T.nW _ (by decide +kernel)) (pv 0)) (pv 3) (fun _ _ => rfl)) pa_nil))))
      (pss_one (ps_expr (pe_fn F_hear_message (hr.mono (by decide)) (pa_cons (pv 0) (pa_cons (pe_ix ix_seq (pf T.cW (T.nW _ (by decide +kernel)) (pv 0)) (pe_ix ix_seq (pv 4) pe_int (fun _ _ => rfl)) (fun _ _ => rfl)) pa_nil))))))), ?_⟩
    have hmem := List.mem_of_getElem? he
    have ho := I.st.ot i e hmem
    have l0 := heardBy_air v.s i e
    refine ⟨_, rfl, _, rfl, _, rfl, v, i, j, 0, e, W, rfl, hi, he, by omega, fun x dx H1 W1 X1 => ?_⟩
    have hm1 : (Vbexac.send v.s (gift i e)).air[v.s.air.length]? = some (gift i e) := by
      show (v.s.air ++ [gift i e])[v.s.air.length]? = some (gift i e)
      rw [List.getElem?_append_right (Nat.le_refl _), Nat.sub_self]; rfl
    have lt1 : v.s.air.length < (Vbexac.send v.s (gift i e)).air.length := (List.getElem?_eq_some_iff.mp hm1).1
    have fh := first_heard (s := v.s) (p := i) (e := e) ha
    have l2 : (Vbexac.send (heardBy v.s i e) (answer (kindBy v.s e) i e)).air.length = v.s.air.length + 2 := by
      show ((heardBy v.s i e).air ++ [_]).length = _
      rw [List.length_append, l0]; rfl
    have e1 : Vbexac.doSteps (Vbexac.send v.s (gift i e)) (Vbexac.hearSteps (Vbexac.send v.s (gift i e)) (gift i e)) (hearOk (Vbexac.send v.s (gift i e))) = (Vbexac.send (heardBy v.s i e) (answer (kindBy v.s e) i e), [0, ((v.s.air.length + 1 : Nat) : Int)]) := by
      rw [doSteps_true (by rw [fh]), fh]
      unfold hearOk
      have l1 : (Vbexac.send v.s (gift i e)).air.length = v.s.air.length + 1 := by show (v.s.air ++ [_]).length = _; rw [List.length_append]; rfl
      rw [if_neg (by rw [l1, l2]; omega), l2]
      have : (((v.s.air.length + 2 : Nat) : Int) - 1) = ((v.s.air.length + 1 : Nat) : Int) := by omega
      rw [this]
    have G2 : Gr 2 2 v.s (Vbexac.send (heardBy v.s i e) (answer (kindBy v.s e) i e)) := by
      have := (Gr.send v.s (gift i e)).trans (Gr.hear (s := Vbexac.send v.s (gift i e)) (m := gift i e))
      rw [fh] at this
      exact this
    refine ⟨_, rfl, _, rfl, _, _, _, _, rfl, W1.world, rfl, _, rfl, .inl ⟨_, _, _, _, rfl, rfl, SqL.of W1.lm, atI_nat (refsV_get lt1), ?_⟩⟩
    refine ⟨_, v.s.air.length, gift i e, W1, rfl, hm1, I.first hmem hm, ⟨fun p => Nat.le_trans (en p) (by decide), ?_, pa⟩, fun v2 H2 p2 hs2 st2 W2 X2 hp2 hl2 nf2 => ?_⟩
    · show (v.s.air ++ [_]).length ≤ 400
      rw [List.length_append, List.length_singleton]; omega
    have hs2 : v2.s = (Vbexac.doSteps (Vbexac.send v.s (gift i e)) (Vbexac.hearSteps (Vbexac.send v.s (gift i e)) (gift i e)) (hearOk (Vbexac.send v.s (gift i e)))).1 := hs2
    have hl2 : H2 p2 = some (.lst ((Vbexac.doSteps (Vbexac.send v.s (gift i e)) (Vbexac.hearSteps (Vbexac.send v.s (gift i e)) (gift i e)) (hearOk (Vbexac.send v.s (gift i e)))).2.map V.int)) := hl2
    rw [e1] at hs2 hl2
    have hs2 : v2.s = Vbexac.send (heardBy v.s i e) (answer (kindBy v.s e) i e) := hs2
    have hl2 : H2 p2 = some (.lst [V.int 0, V.int ((v.s.air.length + 1 : Nat) : Int)]) := hl2
    have hw2 : v2.G .world = v.G .world := st2 .world _ rfl
    have w2 := W2.world
    rw [hw2] at w2
    have hm2 : v2.s.air[v.s.air.length + 1]? = some (answer (kindBy v.s e) i e) := by
      rw [hs2]
      show ((heardBy v.s i e).air ++ [answer (kindBy v.s e) i e])[v.s.air.length + 1]? = _
      rw [List.getElem?_append_right (by omega), l0, Nat.sub_self]; rfl
    have lt2 : v.s.air.length + 1 < v2.s.air.length := (List.getElem?_eq_some_iff.mp hm2).1
    have I2 : Inv v2.s := by rw [hs2]; exact I.second hmem hm ha
    have Z2 : Small2 v2.s := by
      rw [hs2]
      exact ⟨fun p => by have := G2.en p; have := en p; omega, by rw [l2]; exact ai, by rw [G2.pa]; exact pa⟩
    refine ⟨_, rfl, _, rfl, _, _, _, _, rfl, w2, rfl, _, rfl, .inl ⟨_, _, _, _, rfl, rfl, SqL.of hl2, rfl, .inl ⟨_, _, _, _, rfl, rfl, SqL.of W2.lm, atI_nat (refsV_get lt2), ?_⟩⟩⟩
    refine ⟨v2, v.s.air.length + 1, answer (kindBy v.s e) i e, W2, (by rw [hw2] <;> rfl), hm2, I2, Z2, fun v3 H3 p3 hs3 st3 W3 X3 hp3 hl3 nf3 => ?_⟩
    refine k v3 H3 ?_ ⟨?_, fun q hq => ?_, fun q jj y hy => ?_⟩ W3 (X1.trans (X2.trans X3))
    · rw [hs3, doSteps_fst, second_heard ha, hs2]
    · exact (st3 .world _ rfl).trans hw2
    · refine (st3 (.party q) _ (cont_party ?_)).trans (st2 (.party q) _ (cont_party ?_))
      · rw [hs2, G2.pa]; exact hq
      · exact hq
    · refine (st3 (.entry q jj) _ (cont_entry (e := y) ?_)).trans (st2 (.entry q jj) _ (cont_entry (e := y) ?_))
      · rw [hs2]
        exact heardBy_get ho hy
      · exact hy
theorem ok_call_clear {f : Addr} {fd : FuncData} (F : Fun K "call_clear" "call_clear" s_call_clear f fd) (T : Txt K mg C)
    (F_unsettled_gifts : Fn P w K mg base "unsettled_gifts" 1 ["world"] (sp_unsettled_gifts C))
    (F_settle_gift : Fn P w K mg base "settle_gift" 6 ["world", "party", "given"] (sp_settle_gift C)) : FnOk P w K mg base CX0 7 f fd ["world"] (sp_call_clear C) := by
  refine F.ok sc_call_clear (fun vs H Q E h => ?_) (fun cdv A outer s H vs Q E hr h => ?_)
  · obtain ⟨v, W, rfl, I, Z, k⟩ := h
    rfl
  · obtain ⟨v, W, rfl, I, Z, k⟩ := h
    refine ⟨_, (pss_cons (ps_if (pt_cmpR op_ne (pf T.cW (T.nW _ (by decide +kernel)) (pv 0)) (pe_gc T.g_NOT_ARMED) (nomark _)) (pss_one (ps_ret (pe_lst (pa_cons pe_neg pa_nil)))) pss_nil)
      (pss_cons (ps_set (i := 1) sc_call_clear.nd rfl (Or.inl rfl) (pe_fn F_unsettled_gifts (hr.mono (by decide)) (pa_cons (pv 0) pa_nil)))
      (pss_cons (ps_if (pt_cmpR op_gt (pe_op op_add (pe_op op_mul pe_int (pe_callB call_len_seq (by rfl) T.b_len PySem.boot_len (pa_cons (pv 1) pa_nil))) (pe_callB call_len_seq (by rfl) T.b_len PySem.boot_len (pa_cons (pf T.cW (T.nW _ (by decide +kernel)) (pv 0)) pa_nil))) (pe_gc T.g_MOST_MESSAGES) (nomark _)) (pss_one (ps_ret (pe_lst (pa_cons pe_neg pa_nil)))) pss_nil)
      (pss_cons (ps_for PassesOwn.never rfl (pi_list (pv 1)) (pg_tup rfl (pgs_cons (pg_name (i := 2) sc_call_clear.nd rfl (Or.inl rfl)) (pgs_cons (pg_name (i := 3) sc_call_clear.nd rfl (Or.inl rfl)) pgs_nil))) (pss_one (ps_expr (pe_fn F_settle_gift (hr.mono (by decide)) (pa_cons (pv 0) (pa_cons (pv 2) (pa_cons (pv 3) pa_nil)))))))
      (pss_one (ps_ret (pe_lst (pa_cons pe_int (pa_cons (pe_callB call_len_seq (by rfl) T.b_len PySem.boot_len (pa_cons (pv 1) pa_nil)) (pa_cons (pe_callB call_len_seq (by rfl) T.b_len PySem.boot_len (pa_cons (pe_fn F_unsettled_gifts (hr.mono (by decide)) (pa_cons (pv 0) pa_nil)) pa_nil)) pa_nil)))))))))), ?_⟩
    have key : (!decide (V.int (armedI v.s.armed) = V.int (-1))) = v.s.armed.isSome := by
      cases v.s.armed with
      | none => rfl
      | some a =>
        show (!decide (V.int (a : Int) = V.int (-1))) = true
        rw [decide_eq_false (by intro z; injection z with z; omega)]; rfl
    refine ⟨_, rfl, _, _, _, _, rfl, W.world, rfl, rfl, _, rfl, ?_⟩
    refine ite2 (fun h => ?_) (fun h => ?_)
    · rw [key] at h
      rw [show Vbexac.act v.s .clear = (v.s, [-4]) by unfold Vbexac.act; simp only []; rw [if_pos h]] at k
      exact ⟨one_le, fun p hp => k.fin W Ext.refl rfl rfl hp rfl⟩
    rw [key] at h
    have ha : v.s.armed = none := by
      cases q : v.s.armed with
      | none => rfl
      | some a => rw [q] at h; exact absurd rfl h
    rw [show Vbexac.act v.s .clear = if Vbexac.full v.s (2 * (Vbexac.unsettled v.s).length) = true then (v.s, [-7]) else (Vbexac.goodRound v.s, [0, ((Vbexac.unsettled v.s).length : Int), ((Vbexac.unsettled (Vbexac.goodRound v.s)).length : Int)]) by unfold Vbexac.act; simp only []; rw [if_neg h]] at k
    refine ⟨_, rfl, v, W, rfl, Z.two, fun H1 p hp sm g => ?_⟩
    obtain ⟨W1, X1⟩ := W.more sm
    obtain ⟨ts, hl, lt, tup⟩ := g
    have hU : (gifts v.s).map (fun y => (y.1, y.2.1)) = Vbexac.unsettled v.s := allE_gifts v.s
    have lenU : (Vbexac.unsettled v.s).length = ts.length := by rw [← hU, List.length_map, lt]
    refine ⟨_, rfl, _, _, rfl, .inl (SqL.of hl), _, _, rfl, rfl, .inl (by constructor <;> decide), _, rfl, _, _, _, _, rfl, W1.world, rfl, _, _, rfl, .inl (SqL.of W1.lm), _, _, rfl, rfl, _, _, rfl, rfl, _, rfl, ?_⟩
    rw [refsV_len, List.length_map]
    refine ite2 (fun h1 => ?_) (fun h1 => ?_)
    · have h1 := of_decide_eq_true h1
      rw [if_pos (by unfold Vbexac.full Vbexac.MESSAGES; rw [lenU]; exact decide_eq_true (by omega))] at k
      exact ⟨one_le, fun q hq => k.fin W1 X1 rfl rfl hq rfl⟩
    have hlim : v.s.air.length + 2 * ts.length ≤ 400 := by
      have : ¬ (400 : Int) < 2 * (ts.length : Int) + (v.s.air.length : Int) := fun z => h1 (decide_eq_true z)
      omega
    rw [if_neg (by unfold Vbexac.full Vbexac.MESSAGES; rw [lenU, decide_eq_false (by omega)]; simp)] at k
    have memG : ∀ y ∈ gifts v.s, (Vbexac.paper v.s y.1).entries[y.2.2]? = some y.2.1 ∧ y.2.1.mark = .out := fun y hy => by
      obtain ⟨g1, g2⟩ := List.mem_filter.mp hy
      exact ⟨(allE_mem g1).2, is_iff.mp g2⟩
    have apart := unsettled_apart I.st
    have uMem : ∀ x ∈ Vbexac.unsettled v.s, x.2 ∈ (Vbexac.paper v.s x.1).entries ∧ x.2.mark = .out := fun x hx => unsettled_mem.mp hx
    have uAt : ∀ (n : Nat) (y : Nat × (Vbexac.Entry × Nat)), (gifts v.s)[n]? = some y → (Vbexac.unsettled v.s)[n]? = some (y.1, y.2.1) := fun n y hy => by
      rw [← hU, List.getElem?_map, hy]; rfl
    -- the state behind n gifts
    have st : ∀ n, Inv (((Vbexac.unsettled v.s).take n).foldl roundStep v.s) ∧ (((Vbexac.unsettled v.s).take n).foldl roundStep v.s).armed = none := fun n =>
      round_inv _ I ha (fun x hx => uMem x (List.mem_of_mem_take hx)) (List.Pairwise.sublist (List.take_sublist _ _) apart)
    have air : ∀ n, n ≤ ts.length → (((Vbexac.unsettled v.s).take n).foldl roundStep v.s).air.length = v.s.air.length + 2 * n := fun n hn => by
      rw [round_air _ I ha (fun x hx => uMem x (List.mem_of_mem_take hx)) (List.Pairwise.sublist (List.take_sublist _ _) apart), List.length_take, lenU, Nat.min_eq_left hn]
    have gr : ∀ n, n ≤ ts.length → Gr 800 600 v.s (((Vbexac.unsettled v.s).take n).foldl roundStep v.s) := fun n hn =>
      (Gr.rounds ((Vbexac.unsettled v.s).take n) (s := v.s)).mono (by rw [List.length_take]; omega) (by rw [List.length_take]; omega)
    refine ⟨_, rfl, _, rfl, ⟨_, SqL.of hl⟩, for_list (K := K) (a := p) (xs := ts.map V.ref)
      (fun n σ H' => ∃ (v1 : Vw) (x y : Option V), σ = [some (.ref (v.G .world)), some (.ref p), x, y] ∧ At C v1 H' ∧ Ext C v H v1 H' ∧ v1.s = ((Vbexac.unsettled v.s).take n).foldl roundStep v.s ∧ v1.G .world = v.G .world ∧ H' p = some (.lst (ts.map V.ref)) ∧ ¬ Foot C v1 p ∧
        (∀ (m : Nat) (t : Addr) (y : Nat × (Vbexac.Entry × Nat)), ts[m]? = some t → (gifts v.s)[m]? = some y → H' t = some (.tup [.ref (v.G (.party y.1)), .ref (v.G (.entry y.1 y.2.2))]) ∧ ¬ Foot C v1 t) ∧
        (∀ (m : Nat) (y : Nat × (Vbexac.Entry × Nat)), n ≤ m → (gifts v.s)[m]? = some y → (Vbexac.paper v1.s y.1).entries[y.2.2]? = some y.2.1 ∧ v1.G (.party y.1) = v.G (.party y.1) ∧ v1.G (.entry y.1 y.2.2) = v.G (.entry y.1 y.2.2)))
      ⟨v, none, none, rfl, W1, X1, rfl, rfl, hl, W.new hp, fun m t y h1 h2 => ⟨(tup m t y h1 h2).2, W.new (tup m t y h1 h2).1⟩, fun m y _ hy => ⟨(memG y (List.mem_of_getElem? hy)).1, rfl, rfl⟩⟩ (fun n σ H' _ hh => by
        obtain ⟨_, _, _, _, _, _, _, _, h1, _⟩ := hh
        exact SqL.of h1) ?_ ?_⟩
    · rintro n r σ H' hr' ⟨v1, x0, y0, rfl, W2, X2, hs2, hw2, hp2, np2, tu2, to2⟩
      obtain ⟨t, ht, rfl⟩ : ∃ t, ts[n]? = some t ∧ r = V.ref t := by
        rw [List.getElem?_map] at hr'
        cases q : ts[n]? with
        | none => rw [q] at hr'; cases hr'
        | some t => rw [q] at hr'; exact ⟨t, rfl, (Option.some.inj hr').symm⟩
      have hn : n < ts.length := (List.getElem?_eq_some_iff.mp ht).1
      obtain ⟨y, hy⟩ : ∃ y, (gifts v.s)[n]? = some y := ⟨_, List.getElem?_eq_getElem (by rw [← lt]; exact hn)⟩
      obtain ⟨tt, _⟩ := tu2 n t y ht hy
      obtain ⟨he, hpa, hen⟩ := to2 n y (Nat.le_refl _) hy
      have hm := (memG y (List.mem_of_getElem? hy)).2
      have hu := uAt n y hy
      obtain ⟨I2, ha2⟩ := st n
      have ai2 := air n (Nat.le_of_lt hn)
      have gr2 := gr n (Nat.le_of_lt hn)
      rw [← hs2] at I2 ha2 ai2 gr2
      have hi2 : y.1 < v1.s.papers.length := lt_of_mem (List.mem_of_getElem? he)
      refine ⟨t, _, rfl, SqT.of tt, rfl, _, _, rfl, _, _, rfl, rfl, ?_⟩
      refine ⟨_, rfl, _, rfl, _, rfl, v1, y.1, y.2.2, y.2.1, W2, (by rw [hw2, hpa, hen] <;> rfl), hi2, he, hm, I2, ha2, fun q => ?_, by omega, by rw [gr2.pa]; exact Z.pa, fun v3 H3 hs3 nr W3 X3 => ?_⟩
      · have := gr2.en q
        have := Z.en q
        omega
      obtain ⟨p3, np3⟩ := X3.still hp2 np2
      refine ⟨v3, _, _, rfl, W3, X2.trans X3, ?_, nr.w.trans hw2, p3, np3, fun m t' y' h1 h2 => ?_, fun m y' hmn hy' => ?_⟩
      · rw [hs3, hs2, List.take_add_one, hu, List.foldl_append]; rfl
      · obtain ⟨a1, a2⟩ := tu2 m t' y' h1 h2
        exact X3.still a1 a2
      · obtain ⟨b1, b2, b3⟩ := to2 m y' (by omega) hy'
        have hu' := uAt m y' hy'
        have ne : ¬ (y'.1 = y.1 ∧ y'.2.1.id = y.2.1.id) := by
          obtain ⟨hn', en'⟩ := List.getElem?_eq_some_iff.mp hu
          obtain ⟨hm', em'⟩ := List.getElem?_eq_some_iff.mp hu'
          have := List.pairwise_iff_getElem.mp apart n m hn' hm' (by omega)
          rw [en', em'] at this
          exact this
        refine ⟨?_, (nr.p y'.1 (lt_of_mem (List.mem_of_getElem? b1))).trans b2, (nr.e y'.1 y'.2.2 y'.2.1 b1).trans b3⟩
        rw [hs3]
        exact roundStep_get I2.st (List.mem_of_getElem? he) hm ha2 b1 ne
    · rintro σ H' ⟨v1, x0, y0, rfl, W2, X2, hs2, hw2, hp2, np2, tu2, to2⟩
      have gr2 := gr ts.length (Nat.le_refl _)
      have ai2 := air ts.length (Nat.le_refl _)
      rw [List.length_map] at hs2
      rw [← hs2] at gr2 ai2
      rw [← lenU, List.take_length, ← goodRound_eq] at hs2
      refine ⟨_, rfl, _, _, rfl, .inl (SqL.of hp2), _, rfl, v1, W2, (by rw [hw2] <;> rfl), ⟨fun q => by have := gr2.en q; have := Z.en q; omega, by omega, by rw [gr2.pa]; exact Z.pa⟩, fun H3 q hq sm3 g3 => ?_⟩
      obtain ⟨W3, X3⟩ := W2.more sm3
      obtain ⟨ts3, hl3, lt3, _⟩ := g3
      refine ⟨_, _, rfl, .inl (SqL.of hl3), three_le, fun r hr => k.fin W3 (X2.trans X3) hw2 hs2 hr ?_⟩
      have lenU3 : (Vbexac.unsettled (Vbexac.goodRound v.s)).length = ts3.length := by rw [← hs2, ← allE_gifts, List.length_map, lt3]; rfl
      rw [lenU, lenU3, List.length_map, List.length_map]
      rfl
end
end RF
end
section
set_option linter.all false
set_option Elab.async false
set_option maxRecDepth 100000
set_option maxHeartbeats 4000000
namespace RF
open PySem PySem.Spec PyProof.Rows L2
theorem nlen1 {l : List Nat} (h : l.length = 1) : ∃ a, l = [a] := match l, h with | [a], _ => ⟨a, rfl⟩
theorem nlen2 {l : List Nat} (h : l.length = 2) : ∃ a b, l = [a, b] := match l, h with | [a, b], _ => ⟨a, b, rfl⟩
theorem nlen3 {l : List Nat} (h : l.length = 3) : ∃ a b c, l = [a, b, c] := match l, h with | [a, b, c], _ => ⟨a, b, c, rfl⟩
theorem nlen0 {l : List Nat} (h : l.length = 0) : l = [] := match l, h with | [], _ => rfl
theorem inBs_nat : ∀ {ns : List Int} {bs : List (Int × Int)}, ns.length = bs.length → (∀ b ∈ bs, 0 ≤ b.1) → inBs ns bs = true → ∃ ms : List Nat, ns = Vbexac.ints ms
  | [], _, _, _, _ => ⟨[], rfl⟩
  | n :: r, [], h, _, _ => by cases h
  | n :: r, b :: t, h, hb, hi => by
    have hi : (inB n b && inBs r t) = true := hi
    rw [Bool.and_eq_true] at hi
    obtain ⟨ms, e⟩ := inBs_nat (ns := r) (bs := t) (by simpa using h) (fun x hx => hb x (by simp [hx])) hi.2
    have h0 := hb b (by simp)
    have h1 := hi.1
    unfold inB at h1
    rw [Bool.and_eq_true, decide_eq_true_iff, decide_eq_true_iff] at h1
    refine ⟨n.toNat :: ms, ?_⟩
    show n :: r = ((n.toNat : Nat) : Int) :: Vbexac.ints ms
    rw [← e, Int.toNat_of_nonneg (by omega)]
theorem bnds_low {p : Nat} (hp : p < 21) : ∀ b ∈ bnds p, 0 ≤ b.1 := by
  rcases nat21 hp with rfl | rfl | rfl | rfl | rfl | rfl | rfl | rfl | rfl | rfl | rfl | rfl | rfl | rfl | rfl | rfl | rfl | rfl | rfl | rfl | rfl <;> decide
theorem names_narg {p : Nat} (hp : p < 21) (h : names p = true) : narg (p : Int) ≠ 0 := by
  rcases nat21 hp with rfl | rfl | rfl | rfl | rfl | rfl | rfl | rfl | rfl | rfl | rfl | rfl | rfl | rfl | rfl | rfl | rfl | rfl | rfl | rfl | rfl <;> first | (exact (by decide)) | (exact absurd h (by decide))
theorem twelve_le : 12 ≤ sizeLine := by decide
theorem p_of {p n : Nat} (h : decide (V.int (p : Int) = V.int (n : Int)) = true) : p = n := by
  have := of_decide_eq_true h
  injection this with this
  omega
def sp_names_a_party (_C : Cs) : Sp := fun vs H Q _ => ∃ (p : Nat), vs = [.int p] ∧ p < 21 ∧ ∀ t o, H t = none → Q (.bl (names p)) (upd H t o)
def sp_answer_party (C : Cs) : Sp := fun vs H Q _ => ∃ (v : Vw) (p i : Nat) (a : Addr) (ns : List Nat), At C v H ∧ vs = [.ref (v.G .world), .ref (v.G (.party i)), .int p, .ref a] ∧ p < 21 ∧ names p = true ∧ H a = some (.lst ((Vbexac.ints ns).map V.int)) ∧ ns.length = narg p ∧ ns[0]? = some i ∧ inBs (Vbexac.ints ns) (bnds p) = true ∧ i < v.s.papers.length ∧ Inv v.s ∧ Small v.s ∧
  Done C v H (Vbexac.act v.s (callOf p (Vbexac.ints ns))) Q
def sp_answer_all (C : Cs) : Sp := fun vs H Q _ => ∃ (v : Vw) (p : Nat) (a : Addr) (ns : List Nat), At C v H ∧ vs = [.ref (v.G .world), .int p, .ref a] ∧ p < 21 ∧ names p = false ∧ p ≠ 0 ∧ H a = some (.lst ((Vbexac.ints ns).map V.int)) ∧ ns.length = narg p ∧ Inv v.s ∧ Small v.s ∧
  Done C v H (Vbexac.act v.s (callOf p (Vbexac.ints ns))) Q
section
variable {P : Program} {w : World} {K : PySem.W.Frag} {mg : Str → Option Value} {base : Heap} {C : Cs}
theorem ok_names_a_party {f : Addr} {fd : FuncData} (F : Fun K "names_a_party" "names_a_party" s_names_a_party f fd) (T : Txt K mg C) : FnOk P w K mg base CX0 1 f fd ["call"] (sp_names_a_party C) := by
  refine F.ok sc_names_a_party (fun vs H Q E h => ?_) (fun cdv A outer s H vs Q E hr h => ?_)
  · obtain ⟨p, rfl, hp, k⟩ := h
    rfl
  · obtain ⟨p, rfl, hp, k⟩ := h
    refine ⟨_, (pss_one (ps_ret (pe_cmpR op_in_seq (pv 0) (pe_tup (pa_cons (pe_gc T.g_COME) (pa_cons (pe_gc T.g_LAY) (pa_cons (pe_gc T.g_SPLIT) (pa_cons (pe_gc T.g_JOIN) (pa_cons (pe_gc T.g_GIVE) (pa_cons (pe_gc T.g_AGAIN) (pa_cons (pe_gc T.g_ASK) (pa_cons (pe_gc T.g_USE) (pa_cons (pe_gc T.g_LOOK) (pa_cons (pe_gc T.g_PAPER) (pa_cons (pe_gc T.g_COUNTS) (pa_cons (pe_gc T.g_ENTRY) pa_nil))))))))))))) (by rfl)))), ?_⟩
    refine ⟨_, rfl, twelve_le, fun t ht => ⟨_, _, rfl, .inr (SqT.of upd_same), rfl, rfl, ?_⟩⟩
    have e : inV (V.int (p : Int)) [V.int 1, V.int 2, V.int 3, V.int 4, V.int 5, V.int 6, V.int 7, V.int 9, V.int 10, V.int 13, V.int 15, V.int 18] = names p := by
      rcases nat21 hp with rfl | rfl | rfl | rfl | rfl | rfl | rfl | rfl | rfl | rfl | rfl | rfl | rfl | rfl | rfl | rfl | rfl | rfl | rfl | rfl | rfl <;> rfl
    show Q (.bl (inV (V.int (p : Int)) [V.int 1, V.int 2, V.int 3, V.int 4, V.int 5, V.int 6, V.int 7, V.int 9, V.int 10, V.int 13, V.int 15, V.int 18])) _
    rw [e]
    exact k t _ ht
theorem ok_answer_party {f : Addr} {fd : FuncData} (F : Fun K "answer_party" "answer_party" s_answer_party f fd) (T : Txt K mg C)
    (F_call_come : Fn P w K mg base "call_come" 1 ["world", "party", "d"] (sp_call_come C))
    (F_call_lay : Fn P w K mg base "call_lay" 5 ["world", "party", "n"] (sp_call_lay C))
    (F_call_split : Fn P w K mg base "call_split" 5 ["world", "party", "i", "n"] (sp_call_split C))
    (F_call_join : Fn P w K mg base "call_join" 5 ["world", "party", "i", "j"] (sp_call_join C))
    (F_call_give : Fn P w K mg base "call_give" 5 ["world", "party", "i", "q"] (sp_call_give C))
    (F_call_again : Fn P w K mg base "call_again" 5 ["world", "party", "i"] (sp_call_again C))
    (F_call_ask : Fn P w K mg base "call_ask" 5 ["world", "party", "i"] (sp_call_ask C))
    (F_call_use : Fn P w K mg base "call_use" 3 ["world", "party", "i"] (sp_call_use C))
    (F_call_look : Fn P w K mg base "call_look" 2 ["world", "party"] (sp_call_look C))
    (F_call_paper : Fn P w K mg base "call_paper" 2 ["party"] (sp_call_paper C))
    (F_call_counts : Fn P w K mg base "call_counts" 1 ["world", "party", "d"] (sp_call_counts C))
    (F_call_entry : Fn P w K mg base "call_entry" 2 ["party", "i"] (sp_call_entry C)) : FnOk P w K mg base CX0 6 f fd ["world", "party", "call", "numbers"] (sp_answer_party C) := by
  refine F.ok sc_answer_party (fun vs H Q E h => ?_) (fun cdv A outer s H vs Q E hr h => ?_)
  · obtain ⟨v, p, i, a, ns, W, rfl, hp, hn, ha, hlen, h0, hb, hi, I, Z, k⟩ := h
    rfl
  · obtain ⟨v, p, i, a, ns, W, rfl, hp, hn, ha, hlen, h0, hb, hi, I, Z, k⟩ := h
    refine ⟨_, (pss_cons (ps_if (pt_cmpR op_eq (pv 2) (pe_gc T.g_COME) (nomark _)) (pss_one (ps_ret (pe_fn F_call_come (hr.mono (by decide)) (pa_cons (pv 0) (pa_cons (pv 1) (pa_cons (pe_ix ix_seq (pv 3) pe_int (fun _ _ => rfl)) pa_nil)))))) pss_nil)
      (pss_cons (ps_if (pt_cmpR op_eq (pv 2) (pe_gc T.g_LAY) (nomark _)) (pss_one (ps_ret (pe_fn F_call_lay (hr.mono (by decide)) (pa_cons (pv 0) (pa_cons (pv 1) (pa_cons (pe_ix ix_seq (pv 3) pe_int (fun _ _ => rfl)) pa_nil)))))) pss_nil)
      (pss_cons (ps_if (pt_cmpR op_eq (pv 2) (pe_gc T.g_SPLIT) (nomark _)) (pss_one (ps_ret (pe_fn F_call_split (hr.mono (by decide)) (pa_cons (pv 0) (pa_cons (pv 1) (pa_cons (pe_ix ix_seq (pv 3) pe_int (fun _ _ => rfl)) (pa_cons (pe_ix ix_seq (pv 3) pe_int (fun _ _ => rfl)) pa_nil))))))) pss_nil)
      (pss_cons (ps_if (pt_cmpR op_eq (pv 2) (pe_gc T.g_JOIN) (nomark _)) (pss_one (ps_ret (pe_fn F_call_join (hr.mono (by decide)) (pa_cons (pv 0) (pa_cons (pv 1) (pa_cons (pe_ix ix_seq (pv 3) pe_int (fun _ _ => rfl)) (pa_cons (pe_ix ix_seq (pv 3) pe_int (fun _ _ => rfl)) pa_nil))))))) pss_nil)
      (pss_cons (ps_if (pt_cmpR op_eq (pv 2) (pe_gc T.g_GIVE) (nomark _)) (pss_one (ps_ret (pe_fn F_call_give (hr.mono (by decide)) (pa_cons (pv 0) (pa_cons (pv 1) (pa_cons (pe_ix ix_seq (pv 3) pe_int (fun _ _ => rfl)) (pa_cons (pe_ix ix_seq (pv 3) pe_int (fun _ _ => rfl)) pa_nil))))))) pss_nil)
      (pss_cons (ps_if (pt_cmpR op_eq (pv 2) (pe_gc T.g_AGAIN) (nomark _)) (pss_one (ps_ret (pe_fn F_call_again (hr.mono (by decide)) (pa_cons (pv 0) (pa_cons (pv 1) (pa_cons (pe_ix ix_seq (pv 3) pe_int (fun _ _ => rfl)) pa_nil)))))) pss_nil)
      (pss_cons (ps_if (pt_cmpR op_eq (pv 2) (pe_gc T.g_ASK) (nomark _)) (pss_one (ps_ret (pe_fn F_call_ask (hr.mono (by decide)) (pa_cons (pv 0) (pa_cons (pv 1) (pa_cons (pe_ix ix_seq (pv 3) pe_int (fun _ _ => rfl)) pa_nil)))))) pss_nil)
      (pss_cons (ps_if (pt_cmpR op_eq (pv 2) (pe_gc T.g_USE) (nomark _)) (pss_one (ps_ret (pe_fn F_call_use (hr.mono (by decide)) (pa_cons (pv 0) (pa_cons (pv 1) (pa_cons (pe_ix ix_seq (pv 3) pe_int (fun _ _ => rfl)) pa_nil)))))) pss_nil)
      (pss_cons (ps_if (pt_cmpR op_eq (pv 2) (pe_gc T.g_LOOK) (nomark _)) (pss_one (ps_ret (pe_fn F_call_look (hr.mono (by decide)) (pa_cons (pv 0) (pa_cons (pv 1) pa_nil))))) pss_nil)
      (pss_cons (ps_if (pt_cmpR op_eq (pv 2) (pe_gc T.g_PAPER) (nomark _)) (pss_one (ps_ret (pe_fn F_call_paper (hr.mono (by decide)) (pa_cons (pv 1) pa_nil)))) pss_nil)
      (pss_cons (ps_if (pt_cmpR op_eq (pv 2) (pe_gc T.g_COUNTS) (nomark _)) (pss_one (ps_ret (pe_fn F_call_counts (hr.mono (by decide)) (pa_cons (pv 0) (pa_cons (pv 1) (pa_cons (pe_ix ix_seq (pv 3) pe_int (fun _ _ => rfl)) pa_nil)))))) pss_nil)
      (pss_one (ps_ret (pe_fn F_call_entry (hr.mono (by decide)) (pa_cons (pv 1) (pa_cons (pe_ix ix_seq (pv 3) pe_int (fun _ _ => rfl)) pa_nil)))))))))))))))), ?_⟩
    refine ⟨_, rfl, rfl, _, rfl, ?_⟩
    refine ite2 (fun h => ?_) (fun h1 => ?_)
    · obtain rfl : p = 1 := p_of (n := 1) h
      obtain ⟨i', x, rfl⟩ := nlen2 hlen
      obtain rfl : i' = i := Option.some.inj h0
      have ha : H a = some (.lst [V.int i', V.int x]) := ha
      have k : Done C v H (Vbexac.act v.s (.come i' x)) Q := k
      exact ⟨_, rfl, _, rfl, _, rfl, .inl ⟨_, _, _, _, rfl, rfl, SqL.of ha, rfl, v, i', x, W, rfl, hi, I.st.pl, by omega, k⟩⟩
    refine ⟨_, rfl, rfl, _, rfl, ?_⟩
    refine ite2 (fun h => ?_) (fun h2 => ?_)
    · obtain rfl : p = 2 := p_of (n := 2) h
      obtain ⟨i', x, rfl⟩ := nlen2 hlen
      obtain rfl : i' = i := Option.some.inj h0
      have ha : H a = some (.lst [V.int i', V.int x]) := ha
      have k : Done C v H (Vbexac.act v.s (.lay i' x)) Q := k
      exact ⟨_, rfl, _, rfl, _, rfl, .inl ⟨_, _, _, _, rfl, rfl, SqL.of ha, rfl, v, i', x, W, rfl, hi, I, Z, (by have := hb; simp [bnds, inBs, inB, Vbexac.ints] at this; omega), k⟩⟩
    refine ⟨_, rfl, rfl, _, rfl, ?_⟩
    refine ite2 (fun h => ?_) (fun h3 => ?_)
    · obtain rfl : p = 3 := p_of (n := 3) h
      obtain ⟨i', x, y, rfl⟩ := nlen3 hlen
      obtain rfl : i' = i := Option.some.inj h0
      have ha : H a = some (.lst [V.int i', V.int x, V.int y]) := ha
      have k : Done C v H (Vbexac.act v.s (.split i' x y)) Q := k
      exact ⟨_, rfl, _, rfl, _, rfl, .inl ⟨_, _, _, _, rfl, rfl, SqL.of ha, rfl, _, rfl, .inl ⟨_, _, _, _, rfl, rfl, SqL.of ha, rfl, v, i', x, y, W, rfl, hi, I, Z, (by have := hb; simp [bnds, inBs, inB, Vbexac.ints] at this; omega), k⟩⟩⟩
    refine ⟨_, rfl, rfl, _, rfl, ?_⟩
    refine ite2 (fun h => ?_) (fun h4 => ?_)
    · obtain rfl : p = 4 := p_of (n := 4) h
      obtain ⟨i', x, y, rfl⟩ := nlen3 hlen
      obtain rfl : i' = i := Option.some.inj h0
      have ha : H a = some (.lst [V.int i', V.int x, V.int y]) := ha
      have k : Done C v H (Vbexac.act v.s (.join i' x y)) Q := k
      exact ⟨_, rfl, _, rfl, _, rfl, .inl ⟨_, _, _, _, rfl, rfl, SqL.of ha, rfl, _, rfl, .inl ⟨_, _, _, _, rfl, rfl, SqL.of ha, rfl, v, i', x, y, W, rfl, hi, I, Z, k⟩⟩⟩
    refine ⟨_, rfl, rfl, _, rfl, ?_⟩
    refine ite2 (fun h => ?_) (fun h5 => ?_)
    · obtain rfl : p = 5 := p_of (n := 5) h
      obtain ⟨i', x, y, rfl⟩ := nlen3 hlen
      obtain rfl : i' = i := Option.some.inj h0
      have ha : H a = some (.lst [V.int i', V.int x, V.int y]) := ha
      have k : Done C v H (Vbexac.act v.s (.give i' x y)) Q := k
      exact ⟨_, rfl, _, rfl, _, rfl, .inl ⟨_, _, _, _, rfl, rfl, SqL.of ha, rfl, _, rfl, .inl ⟨_, _, _, _, rfl, rfl, SqL.of ha, rfl, v, i', x, y, W, rfl, hi, I, Z, k⟩⟩⟩
    refine ⟨_, rfl, rfl, _, rfl, ?_⟩
    refine ite2 (fun h => ?_) (fun h6 => ?_)
    · obtain rfl : p = 6 := p_of (n := 6) h
      obtain ⟨i', x, rfl⟩ := nlen2 hlen
      obtain rfl : i' = i := Option.some.inj h0
      have ha : H a = some (.lst [V.int i', V.int x]) := ha
      have k : Done C v H (Vbexac.act v.s (.again i' x)) Q := k
      exact ⟨_, rfl, _, rfl, _, rfl, .inl ⟨_, _, _, _, rfl, rfl, SqL.of ha, rfl, v, i', x, W, rfl, hi, I, Z, k⟩⟩
    refine ⟨_, rfl, rfl, _, rfl, ?_⟩
    refine ite2 (fun h => ?_) (fun h7 => ?_)
    · obtain rfl : p = 7 := p_of (n := 7) h
      obtain ⟨i', x, rfl⟩ := nlen2 hlen
      obtain rfl : i' = i := Option.some.inj h0
      have ha : H a = some (.lst [V.int i', V.int x]) := ha
      have k : Done C v H (Vbexac.act v.s (.ask i' x)) Q := k
      exact ⟨_, rfl, _, rfl, _, rfl, .inl ⟨_, _, _, _, rfl, rfl, SqL.of ha, rfl, v, i', x, W, rfl, hi, I, Z, k⟩⟩
    refine ⟨_, rfl, rfl, _, rfl, ?_⟩
    refine ite2 (fun h => ?_) (fun h9 => ?_)
    · obtain rfl : p = 9 := p_of (n := 9) h
      obtain ⟨i', x, rfl⟩ := nlen2 hlen
      obtain rfl : i' = i := Option.some.inj h0
      have ha : H a = some (.lst [V.int i', V.int x]) := ha
      have k : Done C v H (Vbexac.act v.s (.use i' x)) Q := k
      exact ⟨_, rfl, _, rfl, _, rfl, .inl ⟨_, _, _, _, rfl, rfl, SqL.of ha, rfl, v, i', x, W, rfl, hi, I, Z, k⟩⟩
    refine ⟨_, rfl, rfl, _, rfl, ?_⟩
    refine ite2 (fun h => ?_) (fun h10 => ?_)
    · obtain rfl : p = 10 := p_of (n := 10) h
      obtain ⟨i', rfl⟩ := nlen1 hlen
      obtain rfl : i' = i := Option.some.inj h0
      have k : Done C v H (Vbexac.act v.s (.look i')) Q := k
      exact ⟨_, rfl, _, rfl, v, i', W, rfl, hi, I, Z, k⟩
    refine ⟨_, rfl, rfl, _, rfl, ?_⟩
    refine ite2 (fun h => ?_) (fun h13 => ?_)
    · obtain rfl : p = 13 := p_of (n := 13) h
      obtain ⟨i', rfl⟩ := nlen1 hlen
      obtain rfl : i' = i := Option.some.inj h0
      have k : Done C v H (Vbexac.act v.s (.paper i')) Q := k
      exact ⟨_, rfl, v, i', W, rfl, hi, Z, k⟩
    refine ⟨_, rfl, rfl, _, rfl, ?_⟩
    refine ite2 (fun h => ?_) (fun h15 => ?_)
    · obtain rfl : p = 15 := p_of (n := 15) h
      obtain ⟨i', x, rfl⟩ := nlen2 hlen
      obtain rfl : i' = i := Option.some.inj h0
      have ha : H a = some (.lst [V.int i', V.int x]) := ha
      have k : Done C v H (Vbexac.act v.s (.counts i' x)) Q := k
      exact ⟨_, rfl, _, rfl, _, rfl, .inl ⟨_, _, _, _, rfl, rfl, SqL.of ha, rfl, v, i', x, W, rfl, hi, Z, k⟩⟩
    have hne : ∀ n : Nat, ¬ decide (V.int (p : Int) = V.int (n : Int)) = true → p ≠ n := fun n hn z => hn (by rw [z]; exact decide_eq_true rfl)
    obtain rfl : p = 18 := by
      have q1 := hne 1 h1
      have q2 := hne 2 h2
      have q3 := hne 3 h3
      have q4 := hne 4 h4
      have q5 := hne 5 h5
      have q6 := hne 6 h6
      have q7 := hne 7 h7
      have q9 := hne 9 h9
      have q10 := hne 10 h10
      have q13 := hne 13 h13
      have q15 := hne 15 h15
      unfold names at hn
      simp [q1, q2, q3, q4, q5, q6, q7, q9, q10, q13, q15] at hn
      exact hn
    obtain ⟨i', x, rfl⟩ := nlen2 hlen
    obtain rfl : i' = i := Option.some.inj h0
    have ha : H a = some (.lst [V.int i', V.int x]) := ha
    have k : Done C v H (Vbexac.act v.s (.entry i' x)) Q := k
    exact ⟨_, rfl, _, rfl, .inl ⟨_, _, _, _, rfl, rfl, SqL.of ha, rfl, v, i', x, W, rfl, hi, k⟩⟩
theorem ok_answer_all {f : Addr} {fd : FuncData} (F : Fun K "answer_all" "answer_all" s_answer_all f fd) (T : Txt K mg C)
    (F_call_hear : Fn P w K mg base "call_hear" 6 ["world", "m"] (sp_call_hear C))
    (F_call_arm : Fn P w K mg base "call_arm" 1 ["world", "j"] (sp_call_arm C))
    (F_call_tin : Fn P w K mg base "call_tin" 1 ["world", "d"] (sp_call_tin C))
    (F_call_message : Fn P w K mg base "call_message" 1 ["world", "m"] (sp_call_message C))
    (F_call_audit : Fn P w K mg base "call_audit" 3 ["world", "d"] (sp_call_audit C))
    (F_call_clear : Fn P w K mg base "call_clear" 7 ["world"] (sp_call_clear C))
    (F_call_air : Fn P w K mg base "call_air" 1 ["world"] (sp_call_air C)) : FnOk P w K mg base CX0 8 f fd ["world", "call", "numbers"] (sp_answer_all C) := by
  refine F.ok sc_answer_all (fun vs H Q E h => ?_) (fun cdv A outer s H vs Q E hr h => ?_)
  · obtain ⟨v, p, a, ns, W, rfl, hp, hn, hz, ha, hlen, I, Z, k⟩ := h
    rfl
  · obtain ⟨v, p, a, ns, W, rfl, hp, hn, hz, ha, hlen, I, Z, k⟩ := h
    refine ⟨_, (pss_cons (ps_if (pt_cmpR op_eq (pv 1) (pe_gc T.g_HEAR) (nomark _)) (pss_one (ps_ret (pe_fn F_call_hear (hr.mono (by decide)) (pa_cons (pv 0) (pa_cons (pe_ix ix_seq (pv 2) pe_int (fun _ _ => rfl)) pa_nil))))) pss_nil)
      (pss_cons (ps_if (pt_cmpR op_eq (pv 1) (pe_gc T.g_ARM) (nomark _)) (pss_one (ps_ret (pe_fn F_call_arm (hr.mono (by decide)) (pa_cons (pv 0) (pa_cons (pe_ix ix_seq (pv 2) pe_int (fun _ _ => rfl)) pa_nil))))) pss_nil)
      (pss_cons (ps_if (pt_cmpR op_eq (pv 1) (pe_gc T.g_DISARM) (nomark _)) (pss_one (ps_ret (pe_fn F_call_arm (hr.mono (by decide)) (pa_cons (pv 0) (pa_cons (pe_gc T.g_NOT_ARMED) pa_nil))))) pss_nil)
      (pss_cons (ps_if (pt_cmpR op_eq (pv 1) (pe_gc T.g_TIN) (nomark _)) (pss_one (ps_ret (pe_fn F_call_tin (hr.mono (by decide)) (pa_cons (pv 0) (pa_cons (pe_ix ix_seq (pv 2) pe_int (fun _ _ => rfl)) pa_nil))))) pss_nil)
      (pss_cons (ps_if (pt_cmpR op_eq (pv 1) (pe_gc T.g_MESSAGE) (nomark _)) (pss_one (ps_ret (pe_fn F_call_message (hr.mono (by decide)) (pa_cons (pv 0) (pa_cons (pe_ix ix_seq (pv 2) pe_int (fun _ _ => rfl)) pa_nil))))) pss_nil)
      (pss_cons (ps_if (pt_cmpR op_eq (pv 1) (pe_gc T.g_AUDIT) (nomark _)) (pss_one (ps_ret (pe_fn F_call_audit (hr.mono (by decide)) (pa_cons (pv 0) (pa_cons (pe_ix ix_seq (pv 2) pe_int (fun _ _ => rfl)) pa_nil))))) pss_nil)
      (pss_cons (ps_if (pt_cmpR op_eq (pv 1) (pe_gc T.g_CLEAR) (nomark _)) (pss_one (ps_ret (pe_fn F_call_clear (hr.mono (by decide)) (pa_cons (pv 0) pa_nil)))) pss_nil)
      (pss_one (ps_ret (pe_fn F_call_air (hr.mono (by decide)) (pa_cons (pv 0) pa_nil))))))))))), ?_⟩
    refine ⟨_, rfl, rfl, _, rfl, ?_⟩
    refine ite2 (fun h => ?_) (fun h8 => ?_)
    · obtain rfl : p = 8 := p_of (n := 8) h
      obtain ⟨x, rfl⟩ := nlen1 hlen
      have ha : H a = some (.lst [V.int x]) := ha
      have k : Done C v H (Vbexac.act v.s (.hear x)) Q := k
      exact ⟨_, rfl, _, rfl, .inl ⟨_, _, _, _, rfl, rfl, SqL.of ha, rfl, v, x, W, rfl, I, Z, k⟩⟩
    refine ⟨_, rfl, rfl, _, rfl, ?_⟩
    refine ite2 (fun h => ?_) (fun h11 => ?_)
    · obtain rfl : p = 11 := p_of (n := 11) h
      obtain ⟨x, rfl⟩ := nlen1 hlen
      have ha : H a = some (.lst [V.int x]) := ha
      have k : Done C v H (Vbexac.act v.s (.arm x)) Q := k
      exact ⟨_, rfl, _, rfl, .inl ⟨_, _, _, _, rfl, rfl, SqL.of ha, rfl, v, some x, W, rfl, k⟩⟩
    refine ⟨_, rfl, rfl, _, rfl, ?_⟩
    refine ite2 (fun h => ?_) (fun h12 => ?_)
    · obtain rfl : p = 12 := p_of (n := 12) h
      obtain rfl := nlen0 hlen
      have k : Done C v H (Vbexac.act v.s .disarm) Q := k
      exact ⟨_, rfl, v, none, W, rfl, k⟩
    refine ⟨_, rfl, rfl, _, rfl, ?_⟩
    refine ite2 (fun h => ?_) (fun h14 => ?_)
    · obtain rfl : p = 14 := p_of (n := 14) h
      obtain ⟨x, rfl⟩ := nlen1 hlen
      have ha : H a = some (.lst [V.int x]) := ha
      have k : Done C v H (Vbexac.act v.s (.tin x)) Q := k
      exact ⟨_, rfl, _, rfl, .inl ⟨_, _, _, _, rfl, rfl, SqL.of ha, rfl, v, x, W, rfl, Z, k⟩⟩
    refine ⟨_, rfl, rfl, _, rfl, ?_⟩
    refine ite2 (fun h => ?_) (fun h16 => ?_)
    · obtain rfl : p = 16 := p_of (n := 16) h
      obtain ⟨x, rfl⟩ := nlen1 hlen
      have ha : H a = some (.lst [V.int x]) := ha
      have k : Done C v H (Vbexac.act v.s (.message x)) Q := k
      exact ⟨_, rfl, _, rfl, .inl ⟨_, _, _, _, rfl, rfl, SqL.of ha, rfl, v, x, W, rfl, k⟩⟩
    refine ⟨_, rfl, rfl, _, rfl, ?_⟩
    refine ite2 (fun h => ?_) (fun h17 => ?_)
    · obtain rfl : p = 17 := p_of (n := 17) h
      obtain ⟨x, rfl⟩ := nlen1 hlen
      have ha : H a = some (.lst [V.int x]) := ha
      have k : Done C v H (Vbexac.act v.s (.audit x)) Q := k
      exact ⟨_, rfl, _, rfl, .inl ⟨_, _, _, _, rfl, rfl, SqL.of ha, rfl, v, x, W, rfl, I, Z, k⟩⟩
    refine ⟨_, rfl, rfl, _, rfl, ?_⟩
    refine ite2 (fun h => ?_) (fun h19 => ?_)
    · obtain rfl : p = 19 := p_of (n := 19) h
      obtain rfl := nlen0 hlen
      have k : Done C v H (Vbexac.act v.s .clear) Q := k
      exact ⟨_, rfl, v, W, rfl, I, Z, k⟩
    have hne : ∀ n : Nat, ¬ decide (V.int (p : Int) = V.int (n : Int)) = true → p ≠ n := fun n hn z => hn (by rw [z]; exact decide_eq_true rfl)
    obtain rfl : p = 20 := by
      have q8 := hne 8 h8
      have q11 := hne 11 h11
      have q12 := hne 12 h12
      have q14 := hne 14 h14
      have q16 := hne 16 h16
      have q17 := hne 17 h17
      have q19 := hne 19 h19
      unfold names at hn
      simp at hn
      omega
    obtain rfl := nlen0 hlen
    have k : Done C v H (Vbexac.act v.s .air) Q := k
    exact ⟨_, rfl, v, W, rfl, I.st.el, Z, k⟩
theorem ok_answer_call {f : Addr} {fd : FuncData} (F : Fun K "answer_call" "answer_call" s_answer_call f fd) (T : Txt K mg C)
    (F_are_in_range : Fn P w K mg base "are_in_range" 1 ["numbers", "ranges"] (sp_are_in_range K C))
    (F_World_begin : Mt P w K mg base C.W "begin" 3 ["self", "parties", "depots"] (sp_World_begin C))
    (F_names_a_party : Fn P w K mg base "names_a_party" 1 ["call"] (sp_names_a_party C))
    (F_answer_all : Fn P w K mg base "answer_all" 8 ["world", "call", "numbers"] (sp_answer_all C))
    (F_answer_party : Fn P w K mg base "answer_party" 6 ["world", "party", "call", "numbers"] (sp_answer_party C)) : FnOk P w K mg base CX0 9 f fd ["world", "call", "numbers"] (sp_answer_call K C) := by
  refine F.ok sc_answer_call (fun vs H Q E h => ?_) (fun cdv A outer s H vs Q E hr h => ?_)
  · obtain ⟨v, p, a, ns, W, rfl, hp, ha, na, hlen, I, Z, on, k⟩ := h
    rfl
  · obtain ⟨v, p, a, ns, W, rfl, hp, ha, na, hlen, I, Z, on, k⟩ := h
    refine ⟨_, (pss_cons (ps_if (pt_not (pt_call (pe_fn F_are_in_range (hr.mono (by decide)) (pa_cons (pv 2) (pa_cons (pe_ix ix_seq (pe_gc T.g_RANGES) (pv 1) (fun _ _ => rfl)) pa_nil))))) (pss_one (ps_ret (pe_lst (pa_cons pe_neg pa_nil)))) pss_nil)
      (pss_cons (ps_if (pt_cmpR op_eq (pv 1) (pe_gc T.g_BEGIN) (nomark _)) (pss_cons (ps_expr (pe_mt F_World_begin (hr.mono (by decide)) (pv 0) (pa_cons (pe_ix ix_seq (pv 2) pe_int (fun _ _ => rfl)) (pa_cons (pe_ix ix_seq (pv 2) pe_int (fun _ _ => rfl)) pa_nil))))
      (pss_one (ps_ret (pe_lst (pa_cons pe_int pa_nil))))) pss_nil)
      (pss_cons (ps_if (pt_cmpR op_eq (pe_callB call_len_seq (by rfl) T.b_len PySem.boot_len (pa_cons (pf T.cW (T.nW _ (by decide +kernel)) (pv 0)) pa_nil)) pe_int (nomark _)) (pss_one (ps_ret (pe_lst (pa_cons pe_neg pa_nil)))) pss_nil)
      (pss_cons (ps_if (pt_not (pt_call (pe_fn F_names_a_party (hr.mono (by decide)) (pa_cons (pv 1) pa_nil)))) (pss_one (ps_ret (pe_fn F_answer_all (hr.mono (by decide)) (pa_cons (pv 0) (pa_cons (pv 1) (pa_cons (pv 2) pa_nil)))))) pss_nil)
      (pss_cons (ps_if (pt_cmpR op_ge (pe_ix ix_seq (pv 2) pe_int (fun _ _ => rfl)) (pe_callB call_len_seq (by rfl) T.b_len PySem.boot_len (pa_cons (pf T.cW (T.nW _ (by decide +kernel)) (pv 0)) pa_nil)) (nomark _)) (pss_one (ps_ret (pe_lst (pa_cons pe_neg pa_nil)))) pss_nil)
      (pss_one (ps_ret (pe_fn F_answer_party (hr.mono (by decide)) (pa_cons (pv 0) (pa_cons (pe_ix ix_seq (pf T.cW (T.nW _ (by decide +kernel)) (pv 0)) (pe_ix ix_seq (pv 2) pe_int (fun _ _ => rfl)) (fun _ _ => rfl)) (pa_cons (pv 1) (pa_cons (pv 2) pa_nil)))))))))))), ?_⟩
    obtain ⟨rt, tt, hR, hRt, hPt⟩ := T.rg.get hp
    refine ⟨_, rfl, _, rfl, .inr (.inl ⟨_, _, _, _, rfl, rfl, hR.sq _, atI_nat hRt, ?_⟩)⟩
    refine ⟨a, tt, ns, bnds p, rfl, SqL.of ha, hPt.at_ H, by rw [hlen, bnds_len hp], fun H1 sm => ⟨_, rfl, ?_⟩⟩
    obtain ⟨W1, X1⟩ := W.more sm
    have ha1 := sm _ _ ha
    have k := k.from X1 rfl
    refine ite2 (fun h => ?_) (fun h => ?_)
    · rw [step_out hp hlen (by cases q : inBs ns (bnds p) with | false => rfl | true => rw [q] at h; cases h)] at k
      exact ⟨one_le, fun q hq => k.fin W1 Ext.refl rfl rfl hq rfl⟩
    have hb : inBs ns (bnds p) = true := by
      cases q : inBs ns (bnds p) with
      | true => rfl
      | false => exact absurd (by rw [q]; rfl) h
    obtain ⟨ms, rfl⟩ := inBs_nat (by rw [hlen, bnds_len hp]) (bnds_low hp) hb
    have lenM : (Vbexac.ints ms).length = ms.length := by unfold Vbexac.ints; rw [List.length_map]
    have hlen' : ms.length = narg p := by rw [← lenM]; exact hlen
    refine ⟨_, rfl, rfl, _, rfl, ?_⟩
    refine ite2 (fun h0 => ?_) (fun h0 => ?_)
    · obtain rfl : p = 0 := p_of (n := 0) h0
      obtain ⟨x, y, rfl⟩ := nlen2 hlen'
      have ha1 : H1 a = some (.lst [V.int x, V.int y]) := ha1
      have hxy : x ≤ 6 ∧ y ≤ 6 := by
        have := hb
        simp [bnds, inBs, inB, Vbexac.ints] at this
        omega
      have k : Done C v H1 (Vbexac.step v.s (callOf 0 [(x : Int), (y : Int)])) Q := k
      rw [step_begin hb] at k
      refine ⟨_, rfl, _, _, _, rfl, W1.world, rfl, _, rfl, .inl ⟨_, _, _, _, rfl, rfl, SqL.of ha1, rfl, _, rfl, .inl ⟨_, _, _, _, rfl, rfl, SqL.of ha1, rfl, ?_⟩⟩⟩
      refine ⟨v, x, y, W1, rfl, by omega, by omega, fun v2 H2 hs2 hw2 W2 X2 => ⟨one_le, fun q hq => k.fin W2 X2 hw2 ?_ hq rfl⟩⟩
      rw [hs2]; rfl
    have hp0 : p ≠ 0 := fun z => h0 (by rw [z]; exact decide_eq_true rfl)
    rw [step_in hp hlen hb hp0] at k
    refine ⟨_, rfl, _, _, _, _, rfl, W1.world, rfl, _, _, rfl, .inl (SqL.of W1.lp), rfl, _, rfl, ?_⟩
    rw [refsV_len]
    refine ite2 (fun h1 => ?_) (fun h1 => ?_)
    · have e0 : v.s.papers.length = 0 := p_of (n := 0) h1
      rw [if_pos (by
        cases q : v.s.on with
        | false => rfl
        | true => exact absurd e0 (on.mp q))] at k
      exact ⟨one_le, fun q hq => k.fin W1 Ext.refl rfl rfl hq rfl⟩
    have hne : v.s.papers.length ≠ 0 := fun z => h1 (by rw [z]; exact decide_eq_true rfl)
    rw [if_neg (by rw [on.mpr hne]; simp)] at k
    refine ⟨_, rfl, p, rfl, hp, fun t o ht => ⟨_, rfl, ?_⟩⟩
    obtain ⟨W2, X2⟩ := W1.laidNew (o := o) ht
    have ha2 : upd H1 t o a = some (.lst ((Vbexac.ints ms).map V.int)) := by rw [upd_ne (ne_of_none ha1 ht)]; exact ha1
    have k := k.from X2 rfl
    refine ite2 (fun h2 => ?_) (fun h2 => ?_)
    · have hn : names p = false := by
        cases q : names p with
        | false => rfl
        | true => rw [q] at h2; cases h2
      exact ⟨_, rfl, _, rfl, _, rfl, v, p, a, ms, W2, rfl, hp, hn, hp0, ha2, hlen', I, Z, k⟩
    have hn : names p = true := by
      cases q : names p with
      | true => rfl
      | false => exact absurd (by rw [q]; rfl) h2
    obtain ⟨i, r, rfl⟩ : ∃ i r, ms = i :: r := by
      cases ms with
      | nil => exact absurd hlen'.symm (names_narg hp hn)
      | cons i r => exact ⟨i, r, rfl⟩
    have ha2' : upd H1 t o a = some (.lst (V.int i :: (Vbexac.ints r).map V.int)) := ha2
    refine ⟨_, rfl, .inl ⟨_, _, _, _, rfl, rfl, SqL.of ha2', atI_nat (j := 0) (v := V.int i) rfl, _, rfl, _, _, _, _, rfl, W2.world, rfl, _, _, rfl, .inl (SqL.of W2.lp), _, _, rfl, rfl, _, rfl, ?_⟩⟩
    rw [refsV_len]
    refine ite2 (fun h3 => ?_) (fun h3 => ?_)
    · have h3 := of_decide_eq_true h3
      have k : Done C v (upd H1 t o) (Vbexac.act v.s (callOf p ((i : Int) :: Vbexac.ints r))) Q := k
      have hlen3 : ((i : Int) :: Vbexac.ints r).length = narg p := hlen
      rw [act_noparty (q := (i : Int)) (r := Vbexac.ints r) hp hlen3 hn h3] at k
      exact ⟨one_le, fun q hq => k.fin W2 Ext.refl rfl rfl hq rfl⟩
    have hi : i < v.s.papers.length := by
      have : ¬ (v.s.papers.length : Int) ≤ (i : Int) := fun z => h3 (decide_eq_true z)
      omega
    exact ⟨_, rfl, _, rfl, _, _, _, _, rfl, W2.world, rfl, _, rfl, .inl ⟨_, _, _, _, rfl, rfl, SqL.of ha2', atI_nat (j := 0) (v := V.int i) rfl, .inl ⟨_, _, _, _, rfl, rfl, SqL.of W2.lp, atI_nat (refsV_get hi), _, rfl, _, rfl, v, p, i, a, i :: r, W2, rfl, hp, hn, ha2, hlen', rfl, hb, hi, I, Z, k⟩⟩⟩
end
end RF
end
section
set_option linter.all false
set_option Elab.async false
set_option maxRecDepth 100000
set_option maxHeartbeats 4000000
namespace RF
open PySem PySem.Spec PyProof.Rows L2
/-! ### what the top has written -/
structure Fnd (K : PySem.W.Frag) (mg : Str → Option Value) (x : Str) (st : Stmt) : Prop where
  ex : ∃ f fd, Fun K x x st f fd ∧ mg x = some (.ref f)
structure Mfd (K : PySem.W.Frag) (C : Addr) (m qual : Str) (st : Stmt) : Prop where
  ex : ∃ f fd, Fun K m qual st f fd ∧ Meth K C m f
structure Cl1 (K : PySem.W.Frag) (mg : Str → Option Value) (x : Str) (C : Addr) (fs : List Str) : Prop where
  cl : Cls K C
  no : ∀ f ∈ fs, NoAttr K C f
  at_ : mg x = some (.ref C)
  mks : PySem.W.makesIn K C = true
  kp : PySem.W.keepIn K (.ref C) = true
section
variable {K : PySem.W.Frag} {h : Heap} {mg : Str → Option Value} {goal : Prop}
theorem cl_cps (X : K.In h) (G : h.Ns mainGlobals mg) (x : Str) (fs : List Str) {C : Addr} (a : PySem.W.nsIn K mainGlobals x = some (some (.ref C))) (pg : PySem.W.plainGet K C Str.empty = true) (hd : PySem.W.hasDictIn K C = true) (po : PySem.W.plainOver K C = true)
    (sa : PySem.W.findIn K (.ref C) "__setattr__" = some (some (.builtin "object.__setattr__"))) (mk : PySem.W.makesIn K C = true) (kc : PySem.W.keepIn K (.ref C) = true) (no : ∀ f ∈ fs, NoAttr K C f) (rest : Cl1 K mg x C fs → goal) : goal := rest ⟨⟨pg, hd, po, sa⟩, no, PySem.W.mg_of X G a, mk, kc⟩
theorem gc_cps (X : K.In h) (G : h.Ns mainGlobals mg) (x : Str) (i : Int) {tk : Tok} (a : PySem.W.nsIn K mainGlobals x = some (some (.int i tk))) (rest : GC mg x (.int i) → goal) : goal := rest ⟨_, PySem.W.mg_of X G a, ⟨tk, rfl⟩⟩
theorem no_cps (X : K.In h) (G : h.Ns mainGlobals mg) (x : Str) (a : PySem.W.nsIn K mainGlobals x = some none) (rest : mg x = none → goal) : goal := rest (PySem.W.mg_none_of X G a)
theorem fnd_cps (X : K.In h) (G : h.Ns mainGlobals mg) (x : Str) (st : Stmt) {f : Addr} {oc : Value} {od an : Option Addr} {osl : Array (Option Value)} {kV doc pm cdv ct : Value} (a : PySem.W.nsIn K mainGlobals x = some (some (.ref f)))
    (l : K.lookup f = some ⟨oc, od, .func (PySem.W.fnOf x x (defArgs st) (defBody st) (defScope st) .none kV doc pm an cdv ct), osl⟩) (c : PySem.W.codeIn K cdv x = true) (k : PySem.W.keepIn K (.ref f) = true) (rest : Fnd K mg x st → goal) : goal := rest ⟨f, _, fun_mk l c k, PySem.W.mg_of X G a⟩
theorem mfd_cps {x : Str} {fs : List Str} {C : Addr} (_c : Cl1 K mg x C fs) (m qual : Str) (st : Stmt) {f : Addr} {oc : Value} {od an : Option Addr} {osl : Array (Option Value)} {kV doc pm cdv ct : Value} (a : PySem.W.findIn K (.ref C) m = some (some (.ref f))) (i : PySem.W.isFn K (.ref f) = true)
    (l : K.lookup f = some ⟨oc, od, .func (PySem.W.fnOf m qual (defArgs st) (defBody st) (defScope st) .none kV doc pm an cdv ct), osl⟩) (c : PySem.W.codeIn K cdv qual = true) (k : PySem.W.keepIn K (.ref f) = true) (rest : Mfd K C m qual st → goal) : goal := rest ⟨f, _, fun_mk l c k, ⟨a, i, k⟩⟩
theorem rf_cps (X : K.In h) (G : h.Ns mainGlobals mg) (x : Str) {r : Addr} (a : PySem.W.nsIn K mainGlobals x = some (some (.ref r))) (rest : GC mg x (.ref r) → goal) : goal := rest ⟨_, PySem.W.mg_of X G a, rfl⟩
theorem tup2_cps {R r : Addr} {ts : List Addr} (_T : TupK K R (ts.map V.ref)) (i : Nat) (_hi : ts[i]? = some r) (x y : Int) {t1 t2 : Tok} {od : Option Addr} {n : Nat} {osl : Array (Option Value)} (l : K.lookup r = some ⟨.type "tuple", od, .seq #[.int x t1, .int y t2] n, osl⟩) (rest : TupK K r [.int x, .int y] → goal) : goal :=
  rest ⟨_, _, _, l, rfl, rfl, (by show 2 ≤ sizeLine; decide), .cons ⟨t1, rfl⟩ (.cons ⟨t2, rfl⟩ .nil)⟩
theorem refs0_cps {r  : Addr} {R : Addr} {ts : List Addr} (_T : TupK K R (ts.map V.ref)) (i : Nat) (_hi : ts[i]? = some r) {od : Option Addr} {n : Nat} {osl : Array (Option Value)} (l : K.lookup r = some ⟨.type "tuple", od, .seq #[] n, osl⟩) (rest : TupK K r (([] : List Addr).map V.ref) → goal) : goal :=
  rest ⟨_, _, _, l, rfl, rfl, (by show 0 ≤ sizeLine; decide), .nil⟩
theorem refs1_cps {r r0 : Addr} {R : Addr} {ts : List Addr} (_T : TupK K R (ts.map V.ref)) (i : Nat) (_hi : ts[i]? = some r) {od : Option Addr} {n : Nat} {osl : Array (Option Value)} (l : K.lookup r = some ⟨.type "tuple", od, .seq #[.ref r0] n, osl⟩) (rest : TupK K r (([r0] : List Addr).map V.ref) → goal) : goal :=
  rest ⟨_, _, _, l, rfl, rfl, (by show 1 ≤ sizeLine; decide), (.cons rfl .nil)⟩
theorem refs2_cps {r r0 r1 : Addr} {R : Addr} {ts : List Addr} (_T : TupK K R (ts.map V.ref)) (i : Nat) (_hi : ts[i]? = some r) {od : Option Addr} {n : Nat} {osl : Array (Option Value)} (l : K.lookup r = some ⟨.type "tuple", od, .seq #[.ref r0, .ref r1] n, osl⟩) (rest : TupK K r (([r0, r1] : List Addr).map V.ref) → goal) : goal :=
  rest ⟨_, _, _, l, rfl, rfl, (by show 2 ≤ sizeLine; decide), (.cons rfl (.cons rfl .nil))⟩
theorem refs3_cps {r r0 r1 r2 : Addr} {R : Addr} {ts : List Addr} (_T : TupK K R (ts.map V.ref)) (i : Nat) (_hi : ts[i]? = some r) {od : Option Addr} {n : Nat} {osl : Array (Option Value)} (l : K.lookup r = some ⟨.type "tuple", od, .seq #[.ref r0, .ref r1, .ref r2] n, osl⟩) (rest : TupK K r (([r0, r1, r2] : List Addr).map V.ref) → goal) : goal :=
  rest ⟨_, _, _, l, rfl, rfl, (by show 3 ≤ sizeLine; decide), (.cons rfl (.cons rfl (.cons rfl .nil)))⟩
theorem refs21_cps {r r0 r1 r2 r3 r4 r5 r6 r7 r8 r9 r10 r11 r12 r13 r14 r15 r16 r17 r18 r19 r20 : Addr} (_X : K.In h) (_g : GC mg "RANGES" (.ref r)) {od : Option Addr} {n : Nat} {osl : Array (Option Value)} (l : K.lookup r = some ⟨.type "tuple", od, .seq #[.ref r0, .ref r1, .ref r2, .ref r3, .ref r4, .ref r5, .ref r6, .ref r7, .ref r8, .ref r9, .ref r10, .ref r11, .ref r12, .ref r13, .ref r14, .ref r15, .ref r16, .ref r17, .ref r18, .ref r19, .ref r20] n, osl⟩) (rest : TupK K r (([r0, r1, r2, r3, r4, r5, r6, r7, r8, r9, r10, r11, r12, r13, r14, r15, r16, r17, r18, r19, r20] : List Addr).map V.ref) → goal) : goal :=
  rest ⟨_, _, _, l, rfl, rfl, (by show 21 ≤ sizeLine; decide), (.cons rfl (.cons rfl (.cons rfl (.cons rfl (.cons rfl (.cons rfl (.cons rfl (.cons rfl (.cons rfl (.cons rfl (.cons rfl (.cons rfl (.cons rfl (.cons rfl (.cons rfl (.cons rfl (.cons rfl (.cons rfl (.cons rfl (.cons rfl (.cons rfl .nil)))))))))))))))))))))⟩
theorem pairs0 {r : Addr} (a : TupK K r (([] : List Addr).map V.ref)) : PairsK K r [] := ⟨[], a, rfl, fun i r x h => by cases h⟩
theorem pairs1 {r r0 : Addr} {x0 : Int × Int} (a : TupK K r (([r0] : List Addr).map V.ref)) (h0 : TupK K r0 [.int x0.1, .int x0.2]) : PairsK K r [x0] := ⟨[r0], a, rfl, fun i r x h h' => by
  match i, h, h' with
  | 0, h, h' => cases h; cases h'; exact h0⟩
theorem pairs2 {r r0 r1 : Addr} {x0 x1 : Int × Int} (a : TupK K r (([r0, r1] : List Addr).map V.ref)) (h0 : TupK K r0 [.int x0.1, .int x0.2]) (h1 : TupK K r1 [.int x1.1, .int x1.2]) : PairsK K r [x0, x1] := ⟨[r0, r1], a, rfl, fun i r x h h' => by
  match i, h, h' with
  | 0, h, h' => cases h; cases h'; exact h0
  | 1, h, h' => cases h; cases h'; exact h1⟩
theorem pairs3 {r r0 r1 r2 : Addr} {x0 x1 x2 : Int × Int} (a : TupK K r (([r0, r1, r2] : List Addr).map V.ref)) (h0 : TupK K r0 [.int x0.1, .int x0.2]) (h1 : TupK K r1 [.int x1.1, .int x1.2]) (h2 : TupK K r2 [.int x2.1, .int x2.2]) : PairsK K r [x0, x1, x2] := ⟨[r0, r1, r2], a, rfl, fun i r x h h' => by
  match i, h, h' with
  | 0, h, h' => cases h; cases h'; exact h0
  | 1, h, h' => cases h; cases h'; exact h1
  | 2, h, h' => cases h; cases h'; exact h2⟩
end
theorem ranges_mk {K : PySem.W.Frag} {r t0 t1 t2 t3 t4 t5 t6 t7 t8 t9 t10 t11 t12 t13 t14 t15 t16 t17 t18 t19 t20 : Addr} (a : TupK K r (([t0, t1, t2, t3, t4, t5, t6, t7, t8, t9, t10, t11, t12, t13, t14, t15, t16, t17, t18, t19, t20] : List Addr).map V.ref)) (h0 : PairsK K t0 (bnds 0)) (h1 : PairsK K t1 (bnds 1)) (h2 : PairsK K t2 (bnds 2)) (h3 : PairsK K t3 (bnds 3)) (h4 : PairsK K t4 (bnds 4)) (h5 : PairsK K t5 (bnds 5)) (h6 : PairsK K t6 (bnds 6)) (h7 : PairsK K t7 (bnds 7)) (h8 : PairsK K t8 (bnds 8)) (h9 : PairsK K t9 (bnds 9)) (h10 : PairsK K t10 (bnds 10)) (h11 : PairsK K t11 (bnds 11)) (h12 : PairsK K t12 (bnds 12)) (h13 : PairsK K t13 (bnds 13)) (h14 : PairsK K t14 (bnds 14)) (h15 : PairsK K t15 (bnds 15)) (h16 : PairsK K t16 (bnds 16)) (h17 : PairsK K t17 (bnds 17)) (h18 : PairsK K t18 (bnds 18)) (h19 : PairsK K t19 (bnds 19)) (h20 : PairsK K t20 (bnds 20)) : RangesK K r := ⟨[t0, t1, t2, t3, t4, t5, t6, t7, t8, t9, t10, t11, t12, t13, t14, t15, t16, t17, t18, t19, t20], a, rfl, fun i t h => by
  match i, h with
  | 0, h => cases h; exact h0
  | 1, h => cases h; exact h1
  | 2, h => cases h; exact h2
  | 3, h => cases h; exact h3
  | 4, h => cases h; exact h4
  | 5, h => cases h; exact h5
  | 6, h => cases h; exact h6
  | 7, h => cases h; exact h7
  | 8, h => cases h; exact h8
  | 9, h => cases h; exact h9
  | 10, h => cases h; exact h10
  | 11, h => cases h; exact h11
  | 12, h => cases h; exact h12
  | 13, h => cases h; exact h13
  | 14, h => cases h; exact h14
  | 15, h => cases h; exact h15
  | 16, h => cases h; exact h16
  | 17, h => cases h; exact h17
  | 18, h => cases h; exact h18
  | 19, h => cases h; exact h19
  | 20, h => cases h; exact h20⟩
structure Facts (K : PySem.W.Frag) (mg : Str → Option Value) (C : Cs) : Prop where
  T : Txt K mg C
  kE : Cl1 K mg "Entry" C.E fieldsE
  kP : Cl1 K mg "Party" C.P fieldsP
  kT : Cl1 K mg "Tin" C.T fieldsT
  kM : Cl1 K mg "Message" C.M fieldsM
  kW : Cl1 K mg "World" C.W fieldsW
  f_call_come : Fnd K mg "call_come" s_call_come
  f_call_lay : Fnd K mg "call_lay" s_call_lay
  f_put_into_tin : Fnd K mg "put_into_tin" s_put_into_tin
  f_call_split : Fnd K mg "call_split" s_call_split
  f_call_join : Fnd K mg "call_join" s_call_join
  f_call_use : Fnd K mg "call_use" s_call_use
  f_eat_from_tin : Fnd K mg "eat_from_tin" s_eat_from_tin
  f_call_look : Fnd K mg "call_look" s_call_look
  f_unfinished_here : Fnd K mg "unfinished_here" s_unfinished_here
  f_mark_by_tin : Fnd K mg "mark_by_tin" s_mark_by_tin
  f_Entry___init__ : Mfd K C.E "__init__" "Entry.__init__" s_Entry___init__
  f_Party___init__ : Mfd K C.P "__init__" "Party.__init__" s_Party___init__
  f_Party_entry_of : Mfd K C.P "entry_of" "Party.entry_of" s_Party_entry_of
  f_Party_entry_marked : Mfd K C.P "entry_marked" "Party.entry_marked" s_Party_entry_marked
  f_Party_put_entry : Mfd K C.P "put_entry" "Party.put_entry" s_Party_put_entry
  f_Party_put_new_entry : Mfd K C.P "put_new_entry" "Party.put_new_entry" s_Party_put_new_entry
  f_Tin___init__ : Mfd K C.T "__init__" "Tin.__init__" s_Tin___init__
  f_Message___init__ : Mfd K C.M "__init__" "Message.__init__" s_Message___init__
  f_World___init__ : Mfd K C.W "__init__" "World.__init__" s_World___init__
  f_World_begin : Mfd K C.W "begin" "World.begin" s_World_begin
  f_World_cuts_off : Mfd K C.W "cuts_off" "World.cuts_off" s_World_cuts_off
  f_World_put_message : Mfd K C.W "put_message" "World.put_message" s_World_put_message
  f_air_is_full : Fnd K mg "air_is_full" s_air_is_full
  f_call_give : Fnd K mg "call_give" s_call_give
  f_send_about : Fnd K mg "send_about" s_send_about
  f_call_again : Fnd K mg "call_again" s_call_again
  f_call_ask : Fnd K mg "call_ask" s_call_ask
  f_send_once_more : Fnd K mg "send_once_more" s_send_once_more
  f_call_hear : Fnd K mg "call_hear" s_call_hear
  f_hear_message : Fnd K mg "hear_message" s_hear_message
  f_hear_and_answer : Fnd K mg "hear_and_answer" s_hear_and_answer
  f_answer_to : Fnd K mg "answer_to" s_answer_to
  f_hear_answer : Fnd K mg "hear_answer" s_hear_answer
  f_call_clear : Fnd K mg "call_clear" s_call_clear
  f_unsettled_gifts : Fnd K mg "unsettled_gifts" s_unsettled_gifts
  f_settle_gift : Fnd K mg "settle_gift" s_settle_gift
  f_call_paper : Fnd K mg "call_paper" s_call_paper
  f_entry_told : Fnd K mg "entry_told" s_entry_told
  f_call_tin : Fnd K mg "call_tin" s_call_tin
  f_call_counts : Fnd K mg "call_counts" s_call_counts
  f_call_message : Fnd K mg "call_message" s_call_message
  f_call_audit : Fnd K mg "call_audit" s_call_audit
  f_entries_of_depot : Fnd K mg "entries_of_depot" s_entries_of_depot
  f_is_alive : Fnd K mg "is_alive" s_is_alive
  f_is_under_way : Fnd K mg "is_under_way" s_is_under_way
  f_call_entry : Fnd K mg "call_entry" s_call_entry
  f_call_air : Fnd K mg "call_air" s_call_air
  f_answers : Fnd K mg "answers" s_answers
  f_answer_call : Fnd K mg "answer_call" s_answer_call
  f_are_in_range : Fnd K mg "are_in_range" s_are_in_range
  f_names_a_party : Fnd K mg "names_a_party" s_names_a_party
  f_answer_party : Fnd K mg "answer_party" s_answer_party
  f_answer_all : Fnd K mg "answer_all" s_answer_all
  f_call_arm : Fnd K mg "call_arm" s_call_arm
section
variable {P : Program} {w : World} {K : PySem.W.Frag} {mg : Str → Option Value} {base : Heap} {C : Cs}
theorem Fnd.fn {x : Str} {st : Stmt} {k : Nat} {ps : List Str} {sp : Sp} (F : Fnd K mg x st) (b : ∀ (kV doc pm : Value) (an : Option Addr) (cdv ct : Value) (us : List Value), us.length = ps.length → bindArgs (PySem.W.fnOf x x (defArgs st) (defBody st) (defScope st) .none kV doc pm an cdv ct) ⟨us, []⟩ = pure (ps.zip us))
    (ok : ∀ {f : Addr} {fd : FuncData}, Fun K x x st f fd → FnOk P w K mg base CX0 k f fd ps sp) : Fn P w K mg base x k ps sp := by
  obtain ⟨f, fd, h1, h2⟩ := F.ex
  exact ⟨f, fd, ok h1, h1.binds b, h2, h1.kp⟩
theorem Mfd.mt {D : Addr} {m qual : Str} {st : Stmt} {k : Nat} {ps : List Str} {sp : Sp} (F : Mfd K D m qual st) (c : Cls K D) (b : ∀ (kV doc pm : Value) (an : Option Addr) (cdv ct : Value) (us : List Value), us.length = ps.length → bindArgs (PySem.W.fnOf m qual (defArgs st) (defBody st) (defScope st) .none kV doc pm an cdv ct) ⟨us, []⟩ = pure (ps.zip us))
    (ok : ∀ {f : Addr} {fd : FuncData}, Fun K m qual st f fd → FnOk P w K mg base CX0 k f fd ps sp) : Mt P w K mg base D m k ps sp := by
  obtain ⟨f, fd, h1, h2⟩ := F.ex
  exact ⟨⟨f, fd, ok h1, h1.binds b, h2⟩, c⟩
theorem Mfd.mc {D : Addr} {x qual : Str} {fs : List Str} {st : Stmt} {k : Nat} {ps : List Str} {sp : Sp} (F : Mfd K D "__init__" qual st) (c : Cl1 K mg x D fs) (b : ∀ (kV doc pm : Value) (an : Option Addr) (cdv ct : Value) (us : List Value), us.length = ps.length → bindArgs (PySem.W.fnOf "__init__" qual (defArgs st) (defBody st) (defScope st) .none kV doc pm an cdv ct) ⟨us, []⟩ = pure (ps.zip us))
    (ok : ∀ {f : Addr} {fd : FuncData}, Fun K "__init__" qual st f fd → FnOk P w K mg base CX0 k f fd ps sp) : Mc P w K mg base x D k ps sp := by
  obtain ⟨f, fd, h1, h2⟩ := F.ex
  exact ⟨f, fd, ok h1, h1.binds b, ⟨c.mks, h2.at_, h2.fn, c.kp⟩, c.at_⟩
theorem all_ok (X : Facts K mg C) {f : Addr} {fd : FuncData} (F : Fun K "answers" "answers" s_answers f fd) : FnOk P w K mg base CX0 10 f fd ["calls"] (sp_answers K C) := by
  have F_call_come : Fn P w K mg base "call_come" 1 ["world", "party", "d"] (sp_call_come C) := X.f_call_come.fn (fun _ _ _ _ _ _ us hl => match us, hl with | [_, _, _], _ => rfl) (fun F => ok_call_come F X.T )
  have F_World_cuts_off : Mt P w K mg base C.W "cuts_off" 1 ["self"] (sp_World_cuts_off C) := X.f_World_cuts_off.mt X.T.cW (fun _ _ _ _ _ _ us hl => match us, hl with | [_], _ => rfl) (fun F => ok_World_cuts_off F X.T )
  have F_Entry : Mc P w K mg base "Entry" C.E 1 ["self", "number", "depot", "rations", "mark", "other"] (sp_Entry___init__ C) := X.f_Entry___init__.mc X.kE (fun _ _ _ _ _ _ us hl => match us, hl with | [_, _, _, _, _, _], _ => rfl) (fun F => ok_Entry___init__ F X.T )
  have F_Party_put_entry : Mt P w K mg base C.P "put_entry" 3 ["self", "number", "depot", "rations", "mark", "other"] (sp_Party_put_entry C) := X.f_Party_put_entry.mt X.T.cP (fun _ _ _ _ _ _ us hl => match us, hl with | [_, _, _, _, _, _], _ => rfl) (fun F => ok_Party_put_entry F X.T F_Entry)
  have F_Party_put_new_entry : Mt P w K mg base C.P "put_new_entry" 4 ["self", "depot", "rations", "mark", "other"] (sp_Party_put_new_entry C) := X.f_Party_put_new_entry.mt X.T.cP (fun _ _ _ _ _ _ us hl => match us, hl with | [_, _, _, _, _], _ => rfl) (fun F => ok_Party_put_new_entry F X.T F_Party_put_entry)
  have F_put_into_tin : Fn P w K mg base "put_into_tin" 1 ["world", "entry"] (sp_put_into_tin C) := X.f_put_into_tin.fn (fun _ _ _ _ _ _ us hl => match us, hl with | [_, _], _ => rfl) (fun F => ok_put_into_tin F X.T )
  have F_call_lay : Fn P w K mg base "call_lay" 5 ["world", "party", "n"] (sp_call_lay C) := X.f_call_lay.fn (fun _ _ _ _ _ _ us hl => match us, hl with | [_, _, _], _ => rfl) (fun F => ok_call_lay F X.T F_World_cuts_off F_Party_put_new_entry F_put_into_tin)
  have F_Party_entry_of : Mt P w K mg base C.P "entry_of" 1 ["self", "number"] (sp_Party_entry_of C) := X.f_Party_entry_of.mt X.T.cP (fun _ _ _ _ _ _ us hl => match us, hl with | [_, _], _ => rfl) (fun F => ok_Party_entry_of F X.T )
  have F_Party_entry_marked : Mt P w K mg base C.P "entry_marked" 2 ["self", "number", "mark"] (sp_Party_entry_marked C) := X.f_Party_entry_marked.mt X.T.cP (fun _ _ _ _ _ _ us hl => match us, hl with | [_, _, _], _ => rfl) (fun F => ok_Party_entry_marked F X.T F_Party_entry_of)
  have F_call_split : Fn P w K mg base "call_split" 5 ["world", "party", "i", "n"] (sp_call_split C) := X.f_call_split.fn (fun _ _ _ _ _ _ us hl => match us, hl with | [_, _, _, _], _ => rfl) (fun F => ok_call_split F X.T F_Party_entry_marked F_World_cuts_off F_Party_put_new_entry)
  have F_call_join : Fn P w K mg base "call_join" 5 ["world", "party", "i", "j"] (sp_call_join C) := X.f_call_join.fn (fun _ _ _ _ _ _ us hl => match us, hl with | [_, _, _, _], _ => rfl) (fun F => ok_call_join F X.T F_Party_entry_marked F_World_cuts_off F_Party_put_new_entry)
  have F_eat_from_tin : Fn P w K mg base "eat_from_tin" 1 ["world", "party", "entry"] (sp_eat_from_tin C) := X.f_eat_from_tin.fn (fun _ _ _ _ _ _ us hl => match us, hl with | [_, _, _], _ => rfl) (fun F => ok_eat_from_tin F X.T )
  have F_call_use : Fn P w K mg base "call_use" 3 ["world", "party", "i"] (sp_call_use C) := X.f_call_use.fn (fun _ _ _ _ _ _ us hl => match us, hl with | [_, _, _], _ => rfl) (fun F => ok_call_use F X.T F_Party_entry_marked F_World_cuts_off F_eat_from_tin)
  have F_unfinished_here : Fn P w K mg base "unfinished_here" 1 ["party"] (sp_unfinished_here C) := X.f_unfinished_here.fn (fun _ _ _ _ _ _ us hl => match us, hl with | [_], _ => rfl) (fun F => ok_unfinished_here F X.T )
  have F_mark_by_tin : Fn P w K mg base "mark_by_tin" 1 ["tin", "entry"] (sp_mark_by_tin C) := X.f_mark_by_tin.fn (fun _ _ _ _ _ _ us hl => match us, hl with | [_, _], _ => rfl) (fun F => ok_mark_by_tin F X.T )
  have F_call_look : Fn P w K mg base "call_look" 2 ["world", "party"] (sp_call_look C) := X.f_call_look.fn (fun _ _ _ _ _ _ us hl => match us, hl with | [_, _], _ => rfl) (fun F => ok_call_look F X.T F_unfinished_here F_World_cuts_off F_mark_by_tin)
  have F_Party : Mc P w K mg base "Party" C.P 1 ["self", "who"] (sp_Party___init__ C) := X.f_Party___init__.mc X.kP (fun _ _ _ _ _ _ us hl => match us, hl with | [_, _], _ => rfl) (fun F => ok_Party___init__ F X.T )
  have F_Tin : Mc P w K mg base "Tin" C.T 1 ["self"] (sp_Tin___init__ C) := X.f_Tin___init__.mc X.kT (fun _ _ _ _ _ _ us hl => match us, hl with | [_], _ => rfl) (fun F => ok_Tin___init__ F X.T )
  have F_Message : Mc P w K mg base "Message" C.M 1 ["self", "kind", "sender", "receiver", "number", "depot", "rations"] (sp_Message___init__ C) := X.f_Message___init__.mc X.kM (fun _ _ _ _ _ _ us hl => match us, hl with | [_, _, _, _, _, _, _], _ => rfl) (fun F => ok_Message___init__ F X.T )
  have F_World : Mc P w K mg base "World" C.W 1 ["self"] (sp_World___init__ C) := X.f_World___init__.mc X.kW (fun _ _ _ _ _ _ us hl => match us, hl with | [_], _ => rfl) (fun F => ok_World___init__ F X.T )
  have F_World_begin : Mt P w K mg base C.W "begin" 3 ["self", "parties", "depots"] (sp_World_begin C) := X.f_World_begin.mt X.T.cW (fun _ _ _ _ _ _ us hl => match us, hl with | [_, _, _], _ => rfl) (fun F => ok_World_begin F X.T F_Party F_Tin)
  have F_World_put_message : Mt P w K mg base C.W "put_message" 1 ["self", "message"] (sp_World_put_message C) := X.f_World_put_message.mt X.T.cW (fun _ _ _ _ _ _ us hl => match us, hl with | [_, _], _ => rfl) (fun F => ok_World_put_message F X.T )
  have F_air_is_full : Fn P w K mg base "air_is_full" 1 ["world"] (sp_air_is_full C) := X.f_air_is_full.fn (fun _ _ _ _ _ _ us hl => match us, hl with | [_], _ => rfl) (fun F => ok_air_is_full F X.T )
  have F_send_about : Fn P w K mg base "send_about" 3 ["world", "party", "given", "kind"] (sp_send_about C) := X.f_send_about.fn (fun _ _ _ _ _ _ us hl => match us, hl with | [_, _, _, _], _ => rfl) (fun F => ok_send_about F X.T F_World_put_message F_Message)
  have F_call_give : Fn P w K mg base "call_give" 5 ["world", "party", "i", "q"] (sp_call_give C) := X.f_call_give.fn (fun _ _ _ _ _ _ us hl => match us, hl with | [_, _, _, _], _ => rfl) (fun F => ok_call_give F X.T F_Party_entry_marked F_air_is_full F_World_cuts_off F_Party_put_new_entry F_send_about)
  have F_send_once_more : Fn P w K mg base "send_once_more" 4 ["world", "party", "i", "kind"] (sp_send_once_more C) := X.f_send_once_more.fn (fun _ _ _ _ _ _ us hl => match us, hl with | [_, _, _, _], _ => rfl) (fun F => ok_send_once_more F X.T F_Party_entry_marked F_air_is_full F_World_cuts_off F_send_about)
  have F_call_again : Fn P w K mg base "call_again" 5 ["world", "party", "i"] (sp_call_again C) := X.f_call_again.fn (fun _ _ _ _ _ _ us hl => match us, hl with | [_, _, _], _ => rfl) (fun F => ok_call_again F X.T F_send_once_more)
  have F_call_ask : Fn P w K mg base "call_ask" 5 ["world", "party", "i"] (sp_call_ask C) := X.f_call_ask.fn (fun _ _ _ _ _ _ us hl => match us, hl with | [_, _, _], _ => rfl) (fun F => ok_call_ask F X.T F_send_once_more)
  have F_answer_to : Fn P w K mg base "answer_to" 3 ["message", "kind"] (sp_answer_to C) := X.f_answer_to.fn (fun _ _ _ _ _ _ us hl => match us, hl with | [_, _], _ => rfl) (fun F => ok_answer_to F X.T F_Message)
  have F_hear_and_answer : Fn P w K mg base "hear_and_answer" 4 ["world", "message", "mark"] (sp_hear_and_answer C) := X.f_hear_and_answer.fn (fun _ _ _ _ _ _ us hl => match us, hl with | [_, _, _], _ => rfl) (fun F => ok_hear_and_answer F X.T F_Party_entry_of F_World_cuts_off F_Party_put_entry F_World_put_message F_answer_to)
  have F_hear_answer : Fn P w K mg base "hear_answer" 3 ["world", "message", "mark"] (sp_hear_answer C) := X.f_hear_answer.fn (fun _ _ _ _ _ _ us hl => match us, hl with | [_, _, _], _ => rfl) (fun F => ok_hear_answer F X.T F_Party_entry_marked F_World_cuts_off)
  have F_hear_message : Fn P w K mg base "hear_message" 5 ["world", "message"] (sp_hear_message C) := X.f_hear_message.fn (fun _ _ _ _ _ _ us hl => match us, hl with | [_, _], _ => rfl) (fun F => ok_hear_message F X.T F_hear_and_answer F_hear_answer)
  have F_call_hear : Fn P w K mg base "call_hear" 6 ["world", "m"] (sp_call_hear C) := X.f_call_hear.fn (fun _ _ _ _ _ _ us hl => match us, hl with | [_, _], _ => rfl) (fun F => ok_call_hear F X.T F_air_is_full F_hear_message)
  have F_unsettled_gifts : Fn P w K mg base "unsettled_gifts" 1 ["world"] (sp_unsettled_gifts C) := X.f_unsettled_gifts.fn (fun _ _ _ _ _ _ us hl => match us, hl with | [_], _ => rfl) (fun F => ok_unsettled_gifts F X.T )
  have F_settle_gift : Fn P w K mg base "settle_gift" 6 ["world", "party", "given"] (sp_settle_gift C) := X.f_settle_gift.fn (fun _ _ _ _ _ _ us hl => match us, hl with | [_, _, _], _ => rfl) (fun F => ok_settle_gift F X.T F_send_about F_hear_message)
  have F_call_clear : Fn P w K mg base "call_clear" 7 ["world"] (sp_call_clear C) := X.f_call_clear.fn (fun _ _ _ _ _ _ us hl => match us, hl with | [_], _ => rfl) (fun F => ok_call_clear F X.T F_unsettled_gifts F_settle_gift)
  have F_entry_told : Fn P w K mg base "entry_told" 1 ["entry"] (sp_entry_told C) := X.f_entry_told.fn (fun _ _ _ _ _ _ us hl => match us, hl with | [_], _ => rfl) (fun F => ok_entry_told F X.T )
  have F_call_paper : Fn P w K mg base "call_paper" 2 ["party"] (sp_call_paper C) := X.f_call_paper.fn (fun _ _ _ _ _ _ us hl => match us, hl with | [_], _ => rfl) (fun F => ok_call_paper F X.T F_entry_told)
  have F_call_tin : Fn P w K mg base "call_tin" 1 ["world", "d"] (sp_call_tin C) := X.f_call_tin.fn (fun _ _ _ _ _ _ us hl => match us, hl with | [_, _], _ => rfl) (fun F => ok_call_tin F X.T )
  have F_call_counts : Fn P w K mg base "call_counts" 1 ["world", "party", "d"] (sp_call_counts C) := X.f_call_counts.fn (fun _ _ _ _ _ _ us hl => match us, hl with | [_, _, _], _ => rfl) (fun F => ok_call_counts F X.T )
  have F_call_message : Fn P w K mg base "call_message" 1 ["world", "m"] (sp_call_message C) := X.f_call_message.fn (fun _ _ _ _ _ _ us hl => match us, hl with | [_, _], _ => rfl) (fun F => ok_call_message F X.T )
  have F_entries_of_depot : Fn P w K mg base "entries_of_depot" 1 ["world", "d"] (sp_entries_of_depot C) := X.f_entries_of_depot.fn (fun _ _ _ _ _ _ us hl => match us, hl with | [_, _], _ => rfl) (fun F => ok_entries_of_depot F X.T )
  have F_is_alive : Fn P w K mg base "is_alive" 1 ["tin", "entry"] (sp_is_alive C) := X.f_is_alive.fn (fun _ _ _ _ _ _ us hl => match us, hl with | [_, _], _ => rfl) (fun F => ok_is_alive F X.T )
  have F_is_under_way : Fn P w K mg base "is_under_way" 2 ["world", "entry"] (sp_is_under_way C) := X.f_is_under_way.fn (fun _ _ _ _ _ _ us hl => match us, hl with | [_, _], _ => rfl) (fun F => ok_is_under_way F X.T F_Party_entry_of)
  have F_call_audit : Fn P w K mg base "call_audit" 3 ["world", "d"] (sp_call_audit C) := X.f_call_audit.fn (fun _ _ _ _ _ _ us hl => match us, hl with | [_, _], _ => rfl) (fun F => ok_call_audit F X.T F_entries_of_depot F_is_alive F_is_under_way)
  have F_call_entry : Fn P w K mg base "call_entry" 2 ["party", "i"] (sp_call_entry C) := X.f_call_entry.fn (fun _ _ _ _ _ _ us hl => match us, hl with | [_, _], _ => rfl) (fun F => ok_call_entry F X.T F_Party_entry_of F_entry_told)
  have F_call_air : Fn P w K mg base "call_air" 1 ["world"] (sp_call_air C) := X.f_call_air.fn (fun _ _ _ _ _ _ us hl => match us, hl with | [_], _ => rfl) (fun F => ok_call_air F X.T )
  have F_are_in_range : Fn P w K mg base "are_in_range" 1 ["numbers", "ranges"] (sp_are_in_range K C) := X.f_are_in_range.fn (fun _ _ _ _ _ _ us hl => match us, hl with | [_, _], _ => rfl) (fun F => ok_are_in_range F X.T )
  have F_names_a_party : Fn P w K mg base "names_a_party" 1 ["call"] (sp_names_a_party C) := X.f_names_a_party.fn (fun _ _ _ _ _ _ us hl => match us, hl with | [_], _ => rfl) (fun F => ok_names_a_party F X.T )
  have F_call_arm : Fn P w K mg base "call_arm" 1 ["world", "j"] (sp_call_arm C) := X.f_call_arm.fn (fun _ _ _ _ _ _ us hl => match us, hl with | [_, _], _ => rfl) (fun F => ok_call_arm F X.T )
  have F_answer_all : Fn P w K mg base "answer_all" 8 ["world", "call", "numbers"] (sp_answer_all C) := X.f_answer_all.fn (fun _ _ _ _ _ _ us hl => match us, hl with | [_, _, _], _ => rfl) (fun F => ok_answer_all F X.T F_call_hear F_call_arm F_call_tin F_call_message F_call_audit F_call_clear F_call_air)
  have F_answer_party : Fn P w K mg base "answer_party" 6 ["world", "party", "call", "numbers"] (sp_answer_party C) := X.f_answer_party.fn (fun _ _ _ _ _ _ us hl => match us, hl with | [_, _, _, _], _ => rfl) (fun F => ok_answer_party F X.T F_call_come F_call_lay F_call_split F_call_join F_call_give F_call_again F_call_ask F_call_use F_call_look F_call_paper F_call_counts F_call_entry)
  have F_answer_call : Fn P w K mg base "answer_call" 9 ["world", "call", "numbers"] (sp_answer_call K C) := X.f_answer_call.fn (fun _ _ _ _ _ _ us hl => match us, hl with | [_, _, _], _ => rfl) (fun F => ok_answer_call F X.T F_are_in_range F_World_begin F_names_a_party F_answer_all F_answer_party)
  exact ok_answers F X.T F_World F_answer_call
end
theorem all_mk {P : Program} {w : World} {K : PySem.W.Frag} {mg : Str → Option Value} {C : Cs} {fa : Addr} (X : Facts K mg C) (hfa : mg "answers" = some (.ref fa)) :
    ∃ fd : FuncData, (∀ (s : Shared) (us : List Value), us.length = (["calls"] : List Str).length → BindsTo s fd ⟨us, []⟩ ((["calls"] : List Str).zip us)) ∧ ∀ base : Heap, K.In base → base.Ns mainGlobals mg → FnOk P w K mg base CX0 10 fa fd ["calls"] (sp_answers K ⟨0, 0, 0, 0, 0, 0⟩) := by
  obtain ⟨f, fd, h1, h2⟩ := X.f_answers.ex
  have e := hfa.symm.trans h2
  cases e
  refine ⟨fd, ?_, fun base _ _ => all_ok X h1⟩
  obtain ⟨oc, od, kV, doc, pm, an, cdv, ct, osl, rfl, lk, hcd⟩ := h1.ex
  exact fun s us hu => match us, hu with | [_], _ => .of_eq rfl
theorem all_top {P : Program} {w : World} {K : PySem.W.Frag} {mg : Str → Option Value} {fa aE aP aT aM aW aR : Addr} (hfa : mg "answers" = some (.ref fa))
    (kE : Cl1 K mg "Entry" aE fieldsE)
    (kP : Cl1 K mg "Party" aP fieldsP)
    (kT : Cl1 K mg "Tin" aT fieldsT)
    (kM : Cl1 K mg "Message" aM fieldsM)
    (kW : Cl1 K mg "World" aW fieldsW)
    (g_HELD : GC mg "HELD" (.int 0))
    (g_BEING_LAID : GC mg "BEING_LAID" (.int 1))
    (g_GIVEN : GC mg "GIVEN" (.int 2))
    (g_SETTLED : GC mg "SETTLED" (.int 3))
    (g_BEING_USED : GC mg "BEING_USED" (.int 4))
    (g_USED : GC mg "USED" (.int 5))
    (g_OVER : GC mg "OVER" (.int 6))
    (g_REFUSED : GC mg "REFUSED" (.int 7))
    (g_KIND_GIFT : GC mg "KIND_GIFT" (.int 0))
    (g_KIND_GOT : GC mg "KIND_GOT" (.int 1))
    (g_KIND_ASK : GC mg "KIND_ASK" (.int 2))
    (g_KIND_REFUSED : GC mg "KIND_REFUSED" (.int 3))
    (g_BEGIN : GC mg "BEGIN" (.int 0))
    (g_COME : GC mg "COME" (.int 1))
    (g_LAY : GC mg "LAY" (.int 2))
    (g_SPLIT : GC mg "SPLIT" (.int 3))
    (g_JOIN : GC mg "JOIN" (.int 4))
    (g_GIVE : GC mg "GIVE" (.int 5))
    (g_AGAIN : GC mg "AGAIN" (.int 6))
    (g_ASK : GC mg "ASK" (.int 7))
    (g_HEAR : GC mg "HEAR" (.int 8))
    (g_USE : GC mg "USE" (.int 9))
    (g_LOOK : GC mg "LOOK" (.int 10))
    (g_ARM : GC mg "ARM" (.int 11))
    (g_DISARM : GC mg "DISARM" (.int 12))
    (g_PAPER : GC mg "PAPER" (.int 13))
    (g_TIN : GC mg "TIN" (.int 14))
    (g_COUNTS : GC mg "COUNTS" (.int 15))
    (g_MESSAGE : GC mg "MESSAGE" (.int 16))
    (g_AUDIT : GC mg "AUDIT" (.int 17))
    (g_ENTRY : GC mg "ENTRY" (.int 18))
    (g_CLEAR : GC mg "CLEAR" (.int 19))
    (g_AWAY : GC mg "AWAY" (.int (-1)))
    (g_NOT_ARMED : GC mg "NOT_ARMED" (.int (-1)))
    (g_NO_ANSWER : GC mg "NO_ANSWER" (.int (-1)))
    (g_CUT_OFF : GC mg "CUT_OFF" (.int 1))
    (g_MOST_MADE : GC mg "MOST_MADE" (.int 60))
    (g_MOST_MESSAGES : GC mg "MOST_MESSAGES" (.int 400))
    (g_MOST_LAID : GC mg "MOST_LAID" (.int 1000000))
    (g_RANGES : GC mg "RANGES" (.ref aR)) (rg : RangesK K aR)
    (b_len : mg "len" = none)
    (b_range : mg "range" = none)
    (b_zip : mg "zip" = none)
    (b_sum : mg "sum" = none)
    (f_call_come : Fnd K mg "call_come" s_call_come)
    (f_call_lay : Fnd K mg "call_lay" s_call_lay)
    (f_put_into_tin : Fnd K mg "put_into_tin" s_put_into_tin)
    (f_call_split : Fnd K mg "call_split" s_call_split)
    (f_call_join : Fnd K mg "call_join" s_call_join)
    (f_call_use : Fnd K mg "call_use" s_call_use)
    (f_eat_from_tin : Fnd K mg "eat_from_tin" s_eat_from_tin)
    (f_call_look : Fnd K mg "call_look" s_call_look)
    (f_unfinished_here : Fnd K mg "unfinished_here" s_unfinished_here)
    (f_mark_by_tin : Fnd K mg "mark_by_tin" s_mark_by_tin)
    (f_Entry___init__ : Mfd K aE "__init__" "Entry.__init__" s_Entry___init__)
    (f_Party___init__ : Mfd K aP "__init__" "Party.__init__" s_Party___init__)
    (f_Party_entry_of : Mfd K aP "entry_of" "Party.entry_of" s_Party_entry_of)
    (f_Party_entry_marked : Mfd K aP "entry_marked" "Party.entry_marked" s_Party_entry_marked)
    (f_Party_put_entry : Mfd K aP "put_entry" "Party.put_entry" s_Party_put_entry)
    (f_Party_put_new_entry : Mfd K aP "put_new_entry" "Party.put_new_entry" s_Party_put_new_entry)
    (f_Tin___init__ : Mfd K aT "__init__" "Tin.__init__" s_Tin___init__)
    (f_Message___init__ : Mfd K aM "__init__" "Message.__init__" s_Message___init__)
    (f_World___init__ : Mfd K aW "__init__" "World.__init__" s_World___init__)
    (f_World_begin : Mfd K aW "begin" "World.begin" s_World_begin)
    (f_World_cuts_off : Mfd K aW "cuts_off" "World.cuts_off" s_World_cuts_off)
    (f_World_put_message : Mfd K aW "put_message" "World.put_message" s_World_put_message)
    (f_air_is_full : Fnd K mg "air_is_full" s_air_is_full)
    (f_call_give : Fnd K mg "call_give" s_call_give)
    (f_send_about : Fnd K mg "send_about" s_send_about)
    (f_call_again : Fnd K mg "call_again" s_call_again)
    (f_call_ask : Fnd K mg "call_ask" s_call_ask)
    (f_send_once_more : Fnd K mg "send_once_more" s_send_once_more)
    (f_call_hear : Fnd K mg "call_hear" s_call_hear)
    (f_hear_message : Fnd K mg "hear_message" s_hear_message)
    (f_hear_and_answer : Fnd K mg "hear_and_answer" s_hear_and_answer)
    (f_answer_to : Fnd K mg "answer_to" s_answer_to)
    (f_hear_answer : Fnd K mg "hear_answer" s_hear_answer)
    (f_call_clear : Fnd K mg "call_clear" s_call_clear)
    (f_unsettled_gifts : Fnd K mg "unsettled_gifts" s_unsettled_gifts)
    (f_settle_gift : Fnd K mg "settle_gift" s_settle_gift)
    (f_call_paper : Fnd K mg "call_paper" s_call_paper)
    (f_entry_told : Fnd K mg "entry_told" s_entry_told)
    (f_call_tin : Fnd K mg "call_tin" s_call_tin)
    (f_call_counts : Fnd K mg "call_counts" s_call_counts)
    (f_call_message : Fnd K mg "call_message" s_call_message)
    (f_call_audit : Fnd K mg "call_audit" s_call_audit)
    (f_entries_of_depot : Fnd K mg "entries_of_depot" s_entries_of_depot)
    (f_is_alive : Fnd K mg "is_alive" s_is_alive)
    (f_is_under_way : Fnd K mg "is_under_way" s_is_under_way)
    (f_call_entry : Fnd K mg "call_entry" s_call_entry)
    (f_call_air : Fnd K mg "call_air" s_call_air)
    (f_answers : Fnd K mg "answers" s_answers)
    (f_answer_call : Fnd K mg "answer_call" s_answer_call)
    (f_are_in_range : Fnd K mg "are_in_range" s_are_in_range)
    (f_names_a_party : Fnd K mg "names_a_party" s_names_a_party)
    (f_answer_party : Fnd K mg "answer_party" s_answer_party)
    (f_answer_all : Fnd K mg "answer_all" s_answer_all)
    (f_call_arm : Fnd K mg "call_arm" s_call_arm) :
    ∃ fd : FuncData, (∀ (s : Shared) (us : List Value), us.length = (["calls"] : List Str).length → BindsTo s fd ⟨us, []⟩ ((["calls"] : List Str).zip us)) ∧ ∀ base : Heap, K.In base → base.Ns mainGlobals mg → FnOk P w K mg base CX0 10 fa fd ["calls"] (sp_answers K ⟨0, 0, 0, 0, 0, 0⟩) :=
  all_mk (C := ⟨aE, aP, aT, aM, aW, aR⟩) ⟨⟨kE.cl, kP.cl, kT.cl, kM.cl, kW.cl, kE.no, kP.no, kT.no, kM.no, kW.no, g_HELD, g_BEING_LAID, g_GIVEN, g_SETTLED, g_BEING_USED, g_USED, g_OVER, g_REFUSED, g_KIND_GIFT, g_KIND_GOT, g_KIND_ASK, g_KIND_REFUSED, g_BEGIN, g_COME, g_LAY, g_SPLIT, g_JOIN, g_GIVE, g_AGAIN, g_ASK, g_HEAR, g_USE, g_LOOK, g_ARM, g_DISARM, g_PAPER, g_TIN, g_COUNTS, g_MESSAGE, g_AUDIT, g_ENTRY, g_CLEAR, g_AWAY, g_NOT_ARMED, g_NO_ANSWER, g_CUT_OFF, g_MOST_MADE, g_MOST_MESSAGES, g_MOST_LAID, g_RANGES, rg, b_len, b_range, b_zip, b_sum⟩, kE, kP, kT, kM, kW, f_call_come, f_call_lay, f_put_into_tin, f_call_split, f_call_join, f_call_use, f_eat_from_tin, f_call_look, f_unfinished_here, f_mark_by_tin, f_Entry___init__, f_Party___init__, f_Party_entry_of, f_Party_entry_marked, f_Party_put_entry, f_Party_put_new_entry, f_Tin___init__, f_Message___init__, f_World___init__, f_World_begin, f_World_cuts_off, f_World_put_message, f_air_is_full, f_call_give, f_send_about, f_call_again, f_call_ask, f_send_once_more, f_call_hear, f_hear_message, f_hear_and_answer, f_answer_to, f_hear_answer, f_call_clear, f_unsettled_gifts, f_settle_gift, f_call_paper, f_entry_told, f_call_tin, f_call_counts, f_call_message, f_call_audit, f_entries_of_depot, f_is_alive, f_is_under_way, f_call_entry, f_call_air, f_answers, f_answer_call, f_are_in_range, f_names_a_party, f_answer_party, f_answer_all, f_call_arm⟩ hfa
end RF
end
section
set_option linter.all false
set_option Elab.async false
-- names that are taken: the head then writes no second copy of what it would keep under them (the copies alone are 50 MB compiled)
def PySem.W.Fast.tw1655688808919423297 : Nat := 0
def PySem.W.Fast.tw234117892507843538 : Nat := 0
def PySem.W.Fast.tw8508533756635833955 : Nat := 0
def PySem.W.Fast.tw15926947753278374328 : Nat := 0
def PySem.W.Fast.tw11927966434331167648 : Nat := 0
def PySem.W.Fast.tw17368583231647959889 : Nat := 0
def PySem.W.Fast.tw9432966414254993975 : Nat := 0
def PySem.W.Fast.tw2843161589782585942 : Nat := 0
def PySem.W.Fast.tw4039881000885436125 : Nat := 0
def PySem.W.Fast.tw4589169552996622358 : Nat := 0
def PySem.W.Fast.tw7679173964947018307 : Nat := 0
def PySem.W.Fast.tw9377226174285862880 : Nat := 0
def PySem.W.Fast.tw12140563730758161335 : Nat := 0
def PySem.W.Fast.tw15222865645517506805 : Nat := 0
def PySem.W.Fast.tw12952988400168495334 : Nat := 0
def PySem.W.Fast.tw18354906032344255471 : Nat := 0
def PySem.W.Fast.tw7436286970516991809 : Nat := 0
def PySem.W.Fast.tw7090022724003665414 : Nat := 0
def PySem.W.Fast.tw10980132743534864004 : Nat := 0
def PySem.W.Fast.tw10502234028817452785 : Nat := 0
def PySem.W.Fast.tw12327870875964415010 : Nat := 0
def PySem.W.Fast.tw13893072513677620371 : Nat := 0
def PySem.W.Fast.tw13861146154364251381 : Nat := 0
def PySem.W.Fast.tw16712079063682091115 : Nat := 0
def PySem.W.Fast.tw18432770399705792879 : Nat := 0
def PySem.W.Fast.tw4097098610396755327 : Nat := 0
def PySem.W.Fast.tw15004544517022902209 : Nat := 0
def PySem.W.Fast.tw3718099238445548191 : Nat := 0
def PySem.W.Fast.tw9454410180974997603 : Nat := 0
def PySem.W.Fast.tw5054405002679937812 : Nat := 0
def PySem.W.Fast.tw11650378880565739631 : Nat := 0
def PySem.W.Fast.tw17351350604410659711 : Nat := 0
def PySem.W.Fast.tw17889575438288840398 : Nat := 0
def PySem.W.Fast.tw11362861273252438624 : Nat := 0
def PySem.W.Fast.tw7219699437056441919 : Nat := 0
def PySem.W.Fast.tw8585856843080617934 : Nat := 0
def PySem.W.Fast.tw2658024324855818040 : Nat := 0
def PySem.W.Fast.tw9120769995351054431 : Nat := 0
def PySem.W.Fast.tw7234321875882094330 : Nat := 0
def PySem.W.Fast.tw8826020057515540914 : Nat := 0
def PySem.W.Fast.tw10951208774057331335 : Nat := 0
def PySem.W.Fast.tw13061920154750538979 : Nat := 0
def PySem.W.Fast.tw9830138799138866863 : Nat := 0
def PySem.W.Fast.tw1045524458327650802 : Nat := 0
def PySem.W.Fast.tw10624834035741011687 : Nat := 0
def PySem.W.Fast.tw6706230002016556572 : Nat := 0
def PySem.W.Fast.tw1362142140877922005 : Nat := 0
def PySem.W.Fast.tw7100340922988283010 : Nat := 0
def PySem.W.Fast.tw7900717279074626752 : Nat := 0
def PySem.W.Fast.tw14872490800193852429 : Nat := 0
def PySem.W.Fast.tw13070754035905906286 : Nat := 0
def PySem.W.Fast.tw5634388234852784010 : Nat := 0
def PySem.W.Fast.tw10239981882316761065 : Nat := 0
def PySem.W.Fast.tw17525174612769225110 : Nat := 0
def PySem.W.Fast.tw2908478033792396167 : Nat := 0
def PySem.W.Fast.tw17749182717809414111 : Nat := 0
def PySem.W.Fast.tw3461280798326759835 : Nat := 0
def PySem.W.Fast.tw9594395478180792841 : Nat := 0
def PySem.W.Fast.tw17032360926316077907 : Nat := 0
def PySem.W.Fast.tw8366658110115413107 : Nat := 0
def PySem.W.Fast.tw2545853253744221128 : Nat := 0
def PySem.W.Fast.tw18346390177838419011 : Nat := 0
def PySem.W.Fast.tw13025097323286949519 : Nat := 0
def PySem.W.Fast.tw6548983818252318735 : Nat := 0
def PySem.W.Fast.tw11106355837419581638 : Nat := 0
def PySem.W.Fast.tw10108293827375208777 : Nat := 0
def PySem.W.Fast.tw15339138906060028748 : Nat := 0
def PySem.W.Fast.tw4452352772253670464 : Nat := 0
def PySem.W.Fast.tw14994979020966030419 : Nat := 0
def PySem.W.Fast.tw16455920535094557671 : Nat := 0
def PySem.W.Fast.tw17786440262630416347 : Nat := 0
def PySem.W.Fast.tw11706030808937664033 : Nat := 0
def PySem.W.Fast.tw14462808984113289739 : Nat := 0
def PySem.W.Fast.tw469945849537024220 : Nat := 0
def PySem.W.Fast.tw7121195505151513344 : Nat := 0
def PySem.W.Fast.tw9311211190509120912 : Nat := 0
def PySem.W.Fast.tw12785040425256985840 : Nat := 0
def PySem.W.Fast.tw4478421467352315817 : Nat := 0
def PySem.W.Fast.tw7465658163214930466 : Nat := 0
def PySem.W.Fast.tw1250525234210321726 : Nat := 0
open PySem PySem.W PyProof.Rows
set_option maxRecDepth 100000 in
set_option maxHeartbeats 0 in
theorem PySem.Challenge.cw_radiofood_s01_answers_holds : PySem.Challenge.rw_radiofood_s01_answers.Holds := by
  w_on; k_headS; (case hw => exact ⟨[.list [.int 12]], by decide +kernel, by decide +kernel⟩)
  k_fillS
  refine L2.walk_specK (r := PySem.Challenge.rw_radiofood_s01_answers) (k := 10) (CX := L2.CX0) (ps := ["calls"]) (sp := fun K => RF.sp_answers K ⟨0, 0, 0, 0, 0, 0⟩) (by decide +kernel) rfl rfl ⟨rfl, by decide, by decide⟩ (fun w h Y => PySem.W.kIn_of Y) ?F ?S (fun _ _ _ _ z => z)
  case F =>
    intro w mg fa h Y KX G hmg
    refine' RF.cl_cps KX G "Entry" RF.fieldsE ?a1 ?p2 ?h3 ?o4 ?s5 ?m6 ?k7 ?n8 ?r9
    (case a1 => k_is); (case p2 => k_is); (case h3 => k_is); (case o4 => k_is); (case s5 => k_is); (case m6 => k_is); (case k7 => k_is); (case n8 => exact List.forall_mem_cons.mpr ⟨by unfold L2.NoAttr; k_is, List.forall_mem_cons.mpr ⟨by unfold L2.NoAttr; k_is, List.forall_mem_cons.mpr ⟨by unfold L2.NoAttr; k_is, List.forall_mem_cons.mpr ⟨by unfold L2.NoAttr; k_is, List.forall_mem_cons.mpr ⟨by unfold L2.NoAttr; k_is, fun _ z => absurd z (by simp)⟩⟩⟩⟩⟩)
    case' r9 => intro kE
    refine' RF.cl_cps KX G "Party" RF.fieldsP ?a10 ?p11 ?h12 ?o13 ?s14 ?m15 ?k16 ?n17 ?r18
    (case a10 => k_is); (case p11 => k_is); (case h12 => k_is); (case o13 => k_is); (case s14 => k_is); (case m15 => k_is); (case k16 => k_is); (case n17 => exact List.forall_mem_cons.mpr ⟨by unfold L2.NoAttr; k_is, List.forall_mem_cons.mpr ⟨by unfold L2.NoAttr; k_is, List.forall_mem_cons.mpr ⟨by unfold L2.NoAttr; k_is, List.forall_mem_cons.mpr ⟨by unfold L2.NoAttr; k_is, List.forall_mem_cons.mpr ⟨by unfold L2.NoAttr; k_is, fun _ z => absurd z (by simp)⟩⟩⟩⟩⟩)
    case' r18 => intro kP
    refine' RF.cl_cps KX G "Tin" RF.fieldsT ?a19 ?p20 ?h21 ?o22 ?s23 ?m24 ?k25 ?n26 ?r27
    (case a19 => k_is); (case p20 => k_is); (case h21 => k_is); (case o22 => k_is); (case s23 => k_is); (case m24 => k_is); (case k25 => k_is); (case n26 => exact List.forall_mem_cons.mpr ⟨by unfold L2.NoAttr; k_is, List.forall_mem_cons.mpr ⟨by unfold L2.NoAttr; k_is, List.forall_mem_cons.mpr ⟨by unfold L2.NoAttr; k_is, fun _ z => absurd z (by simp)⟩⟩⟩)
    case' r27 => intro kT
    refine' RF.cl_cps KX G "Message" RF.fieldsM ?a28 ?p29 ?h30 ?o31 ?s32 ?m33 ?k34 ?n35 ?r36
    (case a28 => k_is); (case p29 => k_is); (case h30 => k_is); (case o31 => k_is); (case s32 => k_is); (case m33 => k_is); (case k34 => k_is); (case n35 => exact List.forall_mem_cons.mpr ⟨by unfold L2.NoAttr; k_is, List.forall_mem_cons.mpr ⟨by unfold L2.NoAttr; k_is, List.forall_mem_cons.mpr ⟨by unfold L2.NoAttr; k_is, List.forall_mem_cons.mpr ⟨by unfold L2.NoAttr; k_is, List.forall_mem_cons.mpr ⟨by unfold L2.NoAttr; k_is, List.forall_mem_cons.mpr ⟨by unfold L2.NoAttr; k_is, fun _ z => absurd z (by simp)⟩⟩⟩⟩⟩⟩)
    case' r36 => intro kM
    refine' RF.cl_cps KX G "World" RF.fieldsW ?a37 ?p38 ?h39 ?o40 ?s41 ?m42 ?k43 ?n44 ?r45
    (case a37 => k_is); (case p38 => k_is); (case h39 => k_is); (case o40 => k_is); (case s41 => k_is); (case m42 => k_is); (case k43 => k_is); (case n44 => exact List.forall_mem_cons.mpr ⟨by unfold L2.NoAttr; k_is, List.forall_mem_cons.mpr ⟨by unfold L2.NoAttr; k_is, List.forall_mem_cons.mpr ⟨by unfold L2.NoAttr; k_is, List.forall_mem_cons.mpr ⟨by unfold L2.NoAttr; k_is, List.forall_mem_cons.mpr ⟨by unfold L2.NoAttr; k_is, fun _ z => absurd z (by simp)⟩⟩⟩⟩⟩)
    case' r45 => intro kW
    refine' RF.gc_cps KX G "HELD" 0 ?a46 ?r47
    (case a46 => k_is)
    case' r47 => intro g_HELD
    refine' RF.gc_cps KX G "BEING_LAID" 1 ?a48 ?r49
    (case a48 => k_is)
    case' r49 => intro g_BEING_LAID
    refine' RF.gc_cps KX G "GIVEN" 2 ?a50 ?r51
    (case a50 => k_is)
    case' r51 => intro g_GIVEN
    refine' RF.gc_cps KX G "SETTLED" 3 ?a52 ?r53
    (case a52 => k_is)
    case' r53 => intro g_SETTLED
    refine' RF.gc_cps KX G "BEING_USED" 4 ?a54 ?r55
    (case a54 => k_is)
    case' r55 => intro g_BEING_USED
    refine' RF.gc_cps KX G "USED" 5 ?a56 ?r57
    (case a56 => k_is)
    case' r57 => intro g_USED
    refine' RF.gc_cps KX G "OVER" 6 ?a58 ?r59
    (case a58 => k_is)
    case' r59 => intro g_OVER
    refine' RF.gc_cps KX G "REFUSED" 7 ?a60 ?r61
    (case a60 => k_is)
    case' r61 => intro g_REFUSED
    refine' RF.gc_cps KX G "KIND_GIFT" 0 ?a62 ?r63
    (case a62 => k_is)
    case' r63 => intro g_KIND_GIFT
    refine' RF.gc_cps KX G "KIND_GOT" 1 ?a64 ?r65
    (case a64 => k_is)
    case' r65 => intro g_KIND_GOT
    refine' RF.gc_cps KX G "KIND_ASK" 2 ?a66 ?r67
    (case a66 => k_is)
    case' r67 => intro g_KIND_ASK
    refine' RF.gc_cps KX G "KIND_REFUSED" 3 ?a68 ?r69
    (case a68 => k_is)
    case' r69 => intro g_KIND_REFUSED
    refine' RF.gc_cps KX G "BEGIN" 0 ?a70 ?r71
    (case a70 => k_is)
    case' r71 => intro g_BEGIN
    refine' RF.gc_cps KX G "COME" 1 ?a72 ?r73
    (case a72 => k_is)
    case' r73 => intro g_COME
    refine' RF.gc_cps KX G "LAY" 2 ?a74 ?r75
    (case a74 => k_is)
    case' r75 => intro g_LAY
    refine' RF.gc_cps KX G "SPLIT" 3 ?a76 ?r77
    (case a76 => k_is)
    case' r77 => intro g_SPLIT
    refine' RF.gc_cps KX G "JOIN" 4 ?a78 ?r79
    (case a78 => k_is)
    case' r79 => intro g_JOIN
    refine' RF.gc_cps KX G "GIVE" 5 ?a80 ?r81
    (case a80 => k_is)
    case' r81 => intro g_GIVE
    refine' RF.gc_cps KX G "AGAIN" 6 ?a82 ?r83
    (case a82 => k_is)
    case' r83 => intro g_AGAIN
    refine' RF.gc_cps KX G "ASK" 7 ?a84 ?r85
    (case a84 => k_is)
    case' r85 => intro g_ASK
    refine' RF.gc_cps KX G "HEAR" 8 ?a86 ?r87
    (case a86 => k_is)
    case' r87 => intro g_HEAR
    refine' RF.gc_cps KX G "USE" 9 ?a88 ?r89
    (case a88 => k_is)
    case' r89 => intro g_USE
    refine' RF.gc_cps KX G "LOOK" 10 ?a90 ?r91
    (case a90 => k_is)
    case' r91 => intro g_LOOK
    refine' RF.gc_cps KX G "ARM" 11 ?a92 ?r93
    (case a92 => k_is)
    case' r93 => intro g_ARM
    refine' RF.gc_cps KX G "DISARM" 12 ?a94 ?r95
    (case a94 => k_is)
    case' r95 => intro g_DISARM
    refine' RF.gc_cps KX G "PAPER" 13 ?a96 ?r97
    (case a96 => k_is)
    case' r97 => intro g_PAPER
    refine' RF.gc_cps KX G "TIN" 14 ?a98 ?r99
    (case a98 => k_is)
    case' r99 => intro g_TIN
    refine' RF.gc_cps KX G "COUNTS" 15 ?a100 ?r101
    (case a100 => k_is)
    case' r101 => intro g_COUNTS
    refine' RF.gc_cps KX G "MESSAGE" 16 ?a102 ?r103
    (case a102 => k_is)
    case' r103 => intro g_MESSAGE
    refine' RF.gc_cps KX G "AUDIT" 17 ?a104 ?r105
    (case a104 => k_is)
    case' r105 => intro g_AUDIT
    refine' RF.gc_cps KX G "ENTRY" 18 ?a106 ?r107
    (case a106 => k_is)
    case' r107 => intro g_ENTRY
    refine' RF.gc_cps KX G "CLEAR" 19 ?a108 ?r109
    (case a108 => k_is)
    case' r109 => intro g_CLEAR
    refine' RF.gc_cps KX G "AWAY" (-1) ?a110 ?r111
    (case a110 => k_is)
    case' r111 => intro g_AWAY
    refine' RF.gc_cps KX G "NOT_ARMED" (-1) ?a112 ?r113
    (case a112 => k_is)
    case' r113 => intro g_NOT_ARMED
    refine' RF.gc_cps KX G "NO_ANSWER" (-1) ?a114 ?r115
    (case a114 => k_is)
    case' r115 => intro g_NO_ANSWER
    refine' RF.gc_cps KX G "CUT_OFF" 1 ?a116 ?r117
    (case a116 => k_is)
    case' r117 => intro g_CUT_OFF
    refine' RF.gc_cps KX G "MOST_MADE" 60 ?a118 ?r119
    (case a118 => k_is)
    case' r119 => intro g_MOST_MADE
    refine' RF.gc_cps KX G "MOST_MESSAGES" 400 ?a120 ?r121
    (case a120 => k_is)
    case' r121 => intro g_MOST_MESSAGES
    refine' RF.gc_cps KX G "MOST_LAID" 1000000 ?a122 ?r123
    (case a122 => k_is)
    case' r123 => intro g_MOST_LAID
    refine' RF.no_cps KX G "len" ?a124 ?r125
    (case a124 => k_is)
    case' r125 => intro b_len
    refine' RF.no_cps KX G "range" ?a126 ?r127
    (case a126 => k_is)
    case' r127 => intro b_range
    refine' RF.no_cps KX G "zip" ?a128 ?r129
    (case a128 => k_is)
    case' r129 => intro b_zip
    refine' RF.no_cps KX G "sum" ?a130 ?r131
    (case a130 => k_is)
    case' r131 => intro b_sum
    refine' RF.fnd_cps KX G "call_come" RF.s_call_come ?a132 ?l133 ?c134 ?k135 ?r136
    (case a132 => k_is); (case l133 => k_is); (case c134 => k_is); (case k135 => k_is)
    case' r136 => intro f_call_come
    refine' RF.fnd_cps KX G "call_lay" RF.s_call_lay ?a137 ?l138 ?c139 ?k140 ?r141
    (case a137 => k_is); (case l138 => k_is); (case c139 => k_is); (case k140 => k_is)
    case' r141 => intro f_call_lay
    refine' RF.fnd_cps KX G "put_into_tin" RF.s_put_into_tin ?a142 ?l143 ?c144 ?k145 ?r146
    (case a142 => k_is); (case l143 => k_is); (case c144 => k_is); (case k145 => k_is)
    case' r146 => intro f_put_into_tin
    refine' RF.fnd_cps KX G "call_split" RF.s_call_split ?a147 ?l148 ?c149 ?k150 ?r151
    (case a147 => k_is); (case l148 => k_is); (case c149 => k_is); (case k150 => k_is)
    case' r151 => intro f_call_split
    refine' RF.fnd_cps KX G "call_join" RF.s_call_join ?a152 ?l153 ?c154 ?k155 ?r156
    (case a152 => k_is); (case l153 => k_is); (case c154 => k_is); (case k155 => k_is)
    case' r156 => intro f_call_join
    refine' RF.fnd_cps KX G "call_use" RF.s_call_use ?a157 ?l158 ?c159 ?k160 ?r161
    (case a157 => k_is); (case l158 => k_is); (case c159 => k_is); (case k160 => k_is)
    case' r161 => intro f_call_use
    refine' RF.fnd_cps KX G "eat_from_tin" RF.s_eat_from_tin ?a162 ?l163 ?c164 ?k165 ?r166
    (case a162 => k_is); (case l163 => k_is); (case c164 => k_is); (case k165 => k_is)
    case' r166 => intro f_eat_from_tin
    refine' RF.fnd_cps KX G "call_look" RF.s_call_look ?a167 ?l168 ?c169 ?k170 ?r171
    (case a167 => k_is); (case l168 => k_is); (case c169 => k_is); (case k170 => k_is)
    case' r171 => intro f_call_look
    refine' RF.fnd_cps KX G "unfinished_here" RF.s_unfinished_here ?a172 ?l173 ?c174 ?k175 ?r176
    (case a172 => k_is); (case l173 => k_is); (case c174 => k_is); (case k175 => k_is)
    case' r176 => intro f_unfinished_here
    refine' RF.fnd_cps KX G "mark_by_tin" RF.s_mark_by_tin ?a177 ?l178 ?c179 ?k180 ?r181
    (case a177 => k_is); (case l178 => k_is); (case c179 => k_is); (case k180 => k_is)
    case' r181 => intro f_mark_by_tin
    refine' RF.mfd_cps kE "__init__" "Entry.__init__" RF.s_Entry___init__ ?a182 ?i183 ?l184 ?c185 ?k186 ?r187
    (case a182 => k_is); (case i183 => k_is); (case l184 => k_is); (case c185 => k_is); (case k186 => k_is)
    case' r187 => intro f_Entry___init__
    refine' RF.mfd_cps kP "__init__" "Party.__init__" RF.s_Party___init__ ?a188 ?i189 ?l190 ?c191 ?k192 ?r193
    (case a188 => k_is); (case i189 => k_is); (case l190 => k_is); (case c191 => k_is); (case k192 => k_is)
    case' r193 => intro f_Party___init__
    refine' RF.mfd_cps kP "entry_of" "Party.entry_of" RF.s_Party_entry_of ?a194 ?i195 ?l196 ?c197 ?k198 ?r199
    (case a194 => k_is); (case i195 => k_is); (case l196 => k_is); (case c197 => k_is); (case k198 => k_is)
    case' r199 => intro f_Party_entry_of
    refine' RF.mfd_cps kP "entry_marked" "Party.entry_marked" RF.s_Party_entry_marked ?a200 ?i201 ?l202 ?c203 ?k204 ?r205
    (case a200 => k_is); (case i201 => k_is); (case l202 => k_is); (case c203 => k_is); (case k204 => k_is)
    case' r205 => intro f_Party_entry_marked
    refine' RF.mfd_cps kP "put_entry" "Party.put_entry" RF.s_Party_put_entry ?a206 ?i207 ?l208 ?c209 ?k210 ?r211
    (case a206 => k_is); (case i207 => k_is); (case l208 => k_is); (case c209 => k_is); (case k210 => k_is)
    case' r211 => intro f_Party_put_entry
    refine' RF.mfd_cps kP "put_new_entry" "Party.put_new_entry" RF.s_Party_put_new_entry ?a212 ?i213 ?l214 ?c215 ?k216 ?r217
    (case a212 => k_is); (case i213 => k_is); (case l214 => k_is); (case c215 => k_is); (case k216 => k_is)
    case' r217 => intro f_Party_put_new_entry
    refine' RF.mfd_cps kT "__init__" "Tin.__init__" RF.s_Tin___init__ ?a218 ?i219 ?l220 ?c221 ?k222 ?r223
    (case a218 => k_is); (case i219 => k_is); (case l220 => k_is); (case c221 => k_is); (case k222 => k_is)
    case' r223 => intro f_Tin___init__
    refine' RF.mfd_cps kM "__init__" "Message.__init__" RF.s_Message___init__ ?a224 ?i225 ?l226 ?c227 ?k228 ?r229
    (case a224 => k_is); (case i225 => k_is); (case l226 => k_is); (case c227 => k_is); (case k228 => k_is)
    case' r229 => intro f_Message___init__
    refine' RF.mfd_cps kW "__init__" "World.__init__" RF.s_World___init__ ?a230 ?i231 ?l232 ?c233 ?k234 ?r235
    (case a230 => k_is); (case i231 => k_is); (case l232 => k_is); (case c233 => k_is); (case k234 => k_is)
    case' r235 => intro f_World___init__
    refine' RF.mfd_cps kW "begin" "World.begin" RF.s_World_begin ?a236 ?i237 ?l238 ?c239 ?k240 ?r241
    (case a236 => k_is); (case i237 => k_is); (case l238 => k_is); (case c239 => k_is); (case k240 => k_is)
    case' r241 => intro f_World_begin
    refine' RF.mfd_cps kW "cuts_off" "World.cuts_off" RF.s_World_cuts_off ?a242 ?i243 ?l244 ?c245 ?k246 ?r247
    (case a242 => k_is); (case i243 => k_is); (case l244 => k_is); (case c245 => k_is); (case k246 => k_is)
    case' r247 => intro f_World_cuts_off
    refine' RF.mfd_cps kW "put_message" "World.put_message" RF.s_World_put_message ?a248 ?i249 ?l250 ?c251 ?k252 ?r253
    (case a248 => k_is); (case i249 => k_is); (case l250 => k_is); (case c251 => k_is); (case k252 => k_is)
    case' r253 => intro f_World_put_message
    refine' RF.fnd_cps KX G "air_is_full" RF.s_air_is_full ?a254 ?l255 ?c256 ?k257 ?r258
    (case a254 => k_is); (case l255 => k_is); (case c256 => k_is); (case k257 => k_is)
    case' r258 => intro f_air_is_full
    refine' RF.fnd_cps KX G "call_give" RF.s_call_give ?a259 ?l260 ?c261 ?k262 ?r263
    (case a259 => k_is); (case l260 => k_is); (case c261 => k_is); (case k262 => k_is)
    case' r263 => intro f_call_give
    refine' RF.fnd_cps KX G "send_about" RF.s_send_about ?a264 ?l265 ?c266 ?k267 ?r268
    (case a264 => k_is); (case l265 => k_is); (case c266 => k_is); (case k267 => k_is)
    case' r268 => intro f_send_about
    refine' RF.fnd_cps KX G "call_again" RF.s_call_again ?a269 ?l270 ?c271 ?k272 ?r273
    (case a269 => k_is); (case l270 => k_is); (case c271 => k_is); (case k272 => k_is)
    case' r273 => intro f_call_again
    refine' RF.fnd_cps KX G "call_ask" RF.s_call_ask ?a274 ?l275 ?c276 ?k277 ?r278
    (case a274 => k_is); (case l275 => k_is); (case c276 => k_is); (case k277 => k_is)
    case' r278 => intro f_call_ask
    refine' RF.fnd_cps KX G "send_once_more" RF.s_send_once_more ?a279 ?l280 ?c281 ?k282 ?r283
    (case a279 => k_is); (case l280 => k_is); (case c281 => k_is); (case k282 => k_is)
    case' r283 => intro f_send_once_more
    refine' RF.fnd_cps KX G "call_hear" RF.s_call_hear ?a284 ?l285 ?c286 ?k287 ?r288
    (case a284 => k_is); (case l285 => k_is); (case c286 => k_is); (case k287 => k_is)
    case' r288 => intro f_call_hear
    refine' RF.fnd_cps KX G "hear_message" RF.s_hear_message ?a289 ?l290 ?c291 ?k292 ?r293
    (case a289 => k_is); (case l290 => k_is); (case c291 => k_is); (case k292 => k_is)
    case' r293 => intro f_hear_message
    refine' RF.fnd_cps KX G "hear_and_answer" RF.s_hear_and_answer ?a294 ?l295 ?c296 ?k297 ?r298
    (case a294 => k_is); (case l295 => k_is); (case c296 => k_is); (case k297 => k_is)
    case' r298 => intro f_hear_and_answer
    refine' RF.fnd_cps KX G "answer_to" RF.s_answer_to ?a299 ?l300 ?c301 ?k302 ?r303
    (case a299 => k_is); (case l300 => k_is); (case c301 => k_is); (case k302 => k_is)
    case' r303 => intro f_answer_to
    refine' RF.fnd_cps KX G "hear_answer" RF.s_hear_answer ?a304 ?l305 ?c306 ?k307 ?r308
    (case a304 => k_is); (case l305 => k_is); (case c306 => k_is); (case k307 => k_is)
    case' r308 => intro f_hear_answer
    refine' RF.fnd_cps KX G "call_clear" RF.s_call_clear ?a309 ?l310 ?c311 ?k312 ?r313
    (case a309 => k_is); (case l310 => k_is); (case c311 => k_is); (case k312 => k_is)
    case' r313 => intro f_call_clear
    refine' RF.fnd_cps KX G "unsettled_gifts" RF.s_unsettled_gifts ?a314 ?l315 ?c316 ?k317 ?r318
    (case a314 => k_is); (case l315 => k_is); (case c316 => k_is); (case k317 => k_is)
    case' r318 => intro f_unsettled_gifts
    refine' RF.fnd_cps KX G "settle_gift" RF.s_settle_gift ?a319 ?l320 ?c321 ?k322 ?r323
    (case a319 => k_is); (case l320 => k_is); (case c321 => k_is); (case k322 => k_is)
    case' r323 => intro f_settle_gift
    refine' RF.fnd_cps KX G "call_paper" RF.s_call_paper ?a324 ?l325 ?c326 ?k327 ?r328
    (case a324 => k_is); (case l325 => k_is); (case c326 => k_is); (case k327 => k_is)
    case' r328 => intro f_call_paper
    refine' RF.fnd_cps KX G "entry_told" RF.s_entry_told ?a329 ?l330 ?c331 ?k332 ?r333
    (case a329 => k_is); (case l330 => k_is); (case c331 => k_is); (case k332 => k_is)
    case' r333 => intro f_entry_told
    refine' RF.fnd_cps KX G "call_tin" RF.s_call_tin ?a334 ?l335 ?c336 ?k337 ?r338
    (case a334 => k_is); (case l335 => k_is); (case c336 => k_is); (case k337 => k_is)
    case' r338 => intro f_call_tin
    refine' RF.fnd_cps KX G "call_counts" RF.s_call_counts ?a339 ?l340 ?c341 ?k342 ?r343
    (case a339 => k_is); (case l340 => k_is); (case c341 => k_is); (case k342 => k_is)
    case' r343 => intro f_call_counts
    refine' RF.fnd_cps KX G "call_message" RF.s_call_message ?a344 ?l345 ?c346 ?k347 ?r348
    (case a344 => k_is); (case l345 => k_is); (case c346 => k_is); (case k347 => k_is)
    case' r348 => intro f_call_message
    refine' RF.fnd_cps KX G "call_audit" RF.s_call_audit ?a349 ?l350 ?c351 ?k352 ?r353
    (case a349 => k_is); (case l350 => k_is); (case c351 => k_is); (case k352 => k_is)
    case' r353 => intro f_call_audit
    refine' RF.fnd_cps KX G "entries_of_depot" RF.s_entries_of_depot ?a354 ?l355 ?c356 ?k357 ?r358
    (case a354 => k_is); (case l355 => k_is); (case c356 => k_is); (case k357 => k_is)
    case' r358 => intro f_entries_of_depot
    refine' RF.fnd_cps KX G "is_alive" RF.s_is_alive ?a359 ?l360 ?c361 ?k362 ?r363
    (case a359 => k_is); (case l360 => k_is); (case c361 => k_is); (case k362 => k_is)
    case' r363 => intro f_is_alive
    refine' RF.fnd_cps KX G "is_under_way" RF.s_is_under_way ?a364 ?l365 ?c366 ?k367 ?r368
    (case a364 => k_is); (case l365 => k_is); (case c366 => k_is); (case k367 => k_is)
    case' r368 => intro f_is_under_way
    refine' RF.fnd_cps KX G "call_entry" RF.s_call_entry ?a369 ?l370 ?c371 ?k372 ?r373
    (case a369 => k_is); (case l370 => k_is); (case c371 => k_is); (case k372 => k_is)
    case' r373 => intro f_call_entry
    refine' RF.fnd_cps KX G "call_air" RF.s_call_air ?a374 ?l375 ?c376 ?k377 ?r378
    (case a374 => k_is); (case l375 => k_is); (case c376 => k_is); (case k377 => k_is)
    case' r378 => intro f_call_air
    refine' RF.fnd_cps KX G "answers" RF.s_answers ?a379 ?l380 ?c381 ?k382 ?r383
    (case a379 => k_is); (case l380 => k_is); (case c381 => k_is); (case k382 => k_is)
    case' r383 => intro f_answers
    refine' RF.fnd_cps KX G "answer_call" RF.s_answer_call ?a384 ?l385 ?c386 ?k387 ?r388
    (case a384 => k_is); (case l385 => k_is); (case c386 => k_is); (case k387 => k_is)
    case' r388 => intro f_answer_call
    refine' RF.fnd_cps KX G "are_in_range" RF.s_are_in_range ?a389 ?l390 ?c391 ?k392 ?r393
    (case a389 => k_is); (case l390 => k_is); (case c391 => k_is); (case k392 => k_is)
    case' r393 => intro f_are_in_range
    refine' RF.fnd_cps KX G "names_a_party" RF.s_names_a_party ?a394 ?l395 ?c396 ?k397 ?r398
    (case a394 => k_is); (case l395 => k_is); (case c396 => k_is); (case k397 => k_is)
    case' r398 => intro f_names_a_party
    refine' RF.fnd_cps KX G "answer_party" RF.s_answer_party ?a399 ?l400 ?c401 ?k402 ?r403
    (case a399 => k_is); (case l400 => k_is); (case c401 => k_is); (case k402 => k_is)
    case' r403 => intro f_answer_party
    refine' RF.fnd_cps KX G "answer_all" RF.s_answer_all ?a404 ?l405 ?c406 ?k407 ?r408
    (case a404 => k_is); (case l405 => k_is); (case c406 => k_is); (case k407 => k_is)
    case' r408 => intro f_answer_all
    refine' RF.fnd_cps KX G "call_arm" RF.s_call_arm ?a409 ?l410 ?c411 ?k412 ?r413
    (case a409 => k_is); (case l410 => k_is); (case c411 => k_is); (case k412 => k_is)
    case' r413 => intro f_call_arm
    refine' RF.rf_cps KX G "RANGES" ?a414 ?r415
    (case a414 => k_is)
    case' r415 => intro g_RANGES
    refine' RF.refs21_cps KX g_RANGES ?l416 ?r417
    (case l416 => k_is)
    case' r417 => intro tR
    refine' RF.refs2_cps tR 0 rfl ?l418 ?r419
    (case l418 => k_is)
    case' r419 => intro t0
    refine' RF.tup2_cps t0 0 rfl 1 6 ?l420 ?r421
    (case l420 => k_is)
    case' r421 => intro t0_0
    refine' RF.tup2_cps t0 1 rfl 1 6 ?l422 ?r423
    (case l422 => k_is)
    case' r423 => intro t0_1
    refine' RF.refs2_cps tR 1 rfl ?l424 ?r425
    (case l424 => k_is)
    case' r425 => intro t1
    refine' RF.tup2_cps t1 0 rfl 0 5 ?l426 ?r427
    (case l426 => k_is)
    case' r427 => intro t1_0
    refine' RF.tup2_cps t1 1 rfl 0 6 ?l428 ?r429
    (case l428 => k_is)
    case' r429 => intro t1_1
    refine' RF.refs2_cps tR 2 rfl ?l430 ?r431
    (case l430 => k_is)
    case' r431 => intro t2
    refine' RF.tup2_cps t2 0 rfl 0 5 ?l432 ?r433
    (case l432 => k_is)
    case' r433 => intro t2_0
    refine' RF.tup2_cps t2 1 rfl 1 1000 ?l434 ?r435
    (case l434 => k_is)
    case' r435 => intro t2_1
    refine' RF.refs3_cps tR 3 rfl ?l436 ?r437
    (case l436 => k_is)
    case' r437 => intro t3
    refine' RF.tup2_cps t3 0 rfl 0 5 ?l438 ?r439
    (case l438 => k_is)
    case' r439 => intro t3_0
    refine' RF.tup2_cps t3 1 rfl 100 799 ?l440 ?r441
    (case l440 => k_is)
    case' r441 => intro t3_1
    refine' RF.tup2_cps t3 2 rfl 1 1000 ?l442 ?r443
    (case l442 => k_is)
    case' r443 => intro t3_2
    refine' RF.refs3_cps tR 4 rfl ?l444 ?r445
    (case l444 => k_is)
    case' r445 => intro t4
    refine' RF.tup2_cps t4 0 rfl 0 5 ?l446 ?r447
    (case l446 => k_is)
    case' r447 => intro t4_0
    refine' RF.tup2_cps t4 1 rfl 100 799 ?l448 ?r449
    (case l448 => k_is)
    case' r449 => intro t4_1
    refine' RF.tup2_cps t4 2 rfl 100 799 ?l450 ?r451
    (case l450 => k_is)
    case' r451 => intro t4_2
    refine' RF.refs3_cps tR 5 rfl ?l452 ?r453
    (case l452 => k_is)
    case' r453 => intro t5
    refine' RF.tup2_cps t5 0 rfl 0 5 ?l454 ?r455
    (case l454 => k_is)
    case' r455 => intro t5_0
    refine' RF.tup2_cps t5 1 rfl 100 799 ?l456 ?r457
    (case l456 => k_is)
    case' r457 => intro t5_1
    refine' RF.tup2_cps t5 2 rfl 0 5 ?l458 ?r459
    (case l458 => k_is)
    case' r459 => intro t5_2
    refine' RF.refs2_cps tR 6 rfl ?l460 ?r461
    (case l460 => k_is)
    case' r461 => intro t6
    refine' RF.tup2_cps t6 0 rfl 0 5 ?l462 ?r463
    (case l462 => k_is)
    case' r463 => intro t6_0
    refine' RF.tup2_cps t6 1 rfl 100 799 ?l464 ?r465
    (case l464 => k_is)
    case' r465 => intro t6_1
    refine' RF.refs2_cps tR 7 rfl ?l466 ?r467
    (case l466 => k_is)
    case' r467 => intro t7
    refine' RF.tup2_cps t7 0 rfl 0 5 ?l468 ?r469
    (case l468 => k_is)
    case' r469 => intro t7_0
    refine' RF.tup2_cps t7 1 rfl 100 799 ?l470 ?r471
    (case l470 => k_is)
    case' r471 => intro t7_1
    refine' RF.refs1_cps tR 8 rfl ?l472 ?r473
    (case l472 => k_is)
    case' r473 => intro t8
    refine' RF.tup2_cps t8 0 rfl 0 399 ?l474 ?r475
    (case l474 => k_is)
    case' r475 => intro t8_0
    refine' RF.refs2_cps tR 9 rfl ?l476 ?r477
    (case l476 => k_is)
    case' r477 => intro t9
    refine' RF.tup2_cps t9 0 rfl 0 5 ?l478 ?r479
    (case l478 => k_is)
    case' r479 => intro t9_0
    refine' RF.tup2_cps t9 1 rfl 100 799 ?l480 ?r481
    (case l480 => k_is)
    case' r481 => intro t9_1
    refine' RF.refs1_cps tR 10 rfl ?l482 ?r483
    (case l482 => k_is)
    case' r483 => intro t10
    refine' RF.tup2_cps t10 0 rfl 0 5 ?l484 ?r485
    (case l484 => k_is)
    case' r485 => intro t10_0
    refine' RF.refs1_cps tR 11 rfl ?l486 ?r487
    (case l486 => k_is)
    case' r487 => intro t11
    refine' RF.tup2_cps t11 0 rfl 0 1000 ?l488 ?r489
    (case l488 => k_is)
    case' r489 => intro t11_0
    refine' RF.refs0_cps tR 12 rfl ?l490 ?r491
    (case l490 => k_is)
    case' r491 => intro t12
    refine' RF.refs1_cps tR 13 rfl ?l492 ?r493
    (case l492 => k_is)
    case' r493 => intro t13
    refine' RF.tup2_cps t13 0 rfl 0 5 ?l494 ?r495
    (case l494 => k_is)
    case' r495 => intro t13_0
    refine' RF.refs1_cps tR 14 rfl ?l496 ?r497
    (case l496 => k_is)
    case' r497 => intro t14
    refine' RF.tup2_cps t14 0 rfl 0 5 ?l498 ?r499
    (case l498 => k_is)
    case' r499 => intro t14_0
    refine' RF.refs2_cps tR 15 rfl ?l500 ?r501
    (case l500 => k_is)
    case' r501 => intro t15
    refine' RF.tup2_cps t15 0 rfl 0 5 ?l502 ?r503
    (case l502 => k_is)
    case' r503 => intro t15_0
    refine' RF.tup2_cps t15 1 rfl 0 5 ?l504 ?r505
    (case l504 => k_is)
    case' r505 => intro t15_1
    refine' RF.refs1_cps tR 16 rfl ?l506 ?r507
    (case l506 => k_is)
    case' r507 => intro t16
    refine' RF.tup2_cps t16 0 rfl 0 399 ?l508 ?r509
    (case l508 => k_is)
    case' r509 => intro t16_0
    refine' RF.refs1_cps tR 17 rfl ?l510 ?r511
    (case l510 => k_is)
    case' r511 => intro t17
    refine' RF.tup2_cps t17 0 rfl 0 5 ?l512 ?r513
    (case l512 => k_is)
    case' r513 => intro t17_0
    refine' RF.refs2_cps tR 18 rfl ?l514 ?r515
    (case l514 => k_is)
    case' r515 => intro t18
    refine' RF.tup2_cps t18 0 rfl 0 5 ?l516 ?r517
    (case l516 => k_is)
    case' r517 => intro t18_0
    refine' RF.tup2_cps t18 1 rfl 100 799 ?l518 ?r519
    (case l518 => k_is)
    case' r519 => intro t18_1
    refine' RF.refs0_cps tR 19 rfl ?l520 ?r521
    (case l520 => k_is)
    case' r521 => intro t19
    refine' RF.refs0_cps tR 20 rfl ?l522 ?r523
    (case l522 => k_is)
    case' r523 => intro t20
    exact RF.all_top hmg kE kP kT kM kW g_HELD g_BEING_LAID g_GIVEN g_SETTLED g_BEING_USED g_USED g_OVER g_REFUSED g_KIND_GIFT g_KIND_GOT g_KIND_ASK g_KIND_REFUSED g_BEGIN g_COME g_LAY g_SPLIT g_JOIN g_GIVE g_AGAIN g_ASK g_HEAR g_USE g_LOOK g_ARM g_DISARM g_PAPER g_TIN g_COUNTS g_MESSAGE g_AUDIT g_ENTRY g_CLEAR g_AWAY g_NOT_ARMED g_NO_ANSWER g_CUT_OFF g_MOST_MADE g_MOST_MESSAGES g_MOST_LAID g_RANGES (RF.ranges_mk tR (RF.pairs2 t0 t0_0 t0_1) (RF.pairs2 t1 t1_0 t1_1) (RF.pairs2 t2 t2_0 t2_1) (RF.pairs3 t3 t3_0 t3_1 t3_2) (RF.pairs3 t4 t4_0 t4_1 t4_2) (RF.pairs3 t5 t5_0 t5_1 t5_2) (RF.pairs2 t6 t6_0 t6_1) (RF.pairs2 t7 t7_0 t7_1) (RF.pairs1 t8 t8_0) (RF.pairs2 t9 t9_0 t9_1) (RF.pairs1 t10 t10_0) (RF.pairs1 t11 t11_0) (RF.pairs0 t12) (RF.pairs1 t13 t13_0) (RF.pairs1 t14 t14_0) (RF.pairs2 t15 t15_0 t15_1) (RF.pairs1 t16 t16_0) (RF.pairs1 t17 t17_0) (RF.pairs2 t18 t18_0 t18_1) (RF.pairs0 t19) (RF.pairs0 t20)) b_len b_range b_zip b_sum f_call_come f_call_lay f_put_into_tin f_call_split f_call_join f_call_use f_eat_from_tin f_call_look f_unfinished_here f_mark_by_tin f_Entry___init__ f_Party___init__ f_Party_entry_of f_Party_entry_marked f_Party_put_entry f_Party_put_new_entry f_Tin___init__ f_Message___init__ f_World___init__ f_World_begin f_World_cuts_off f_World_put_message f_air_is_full f_call_give f_send_about f_call_again f_call_ask f_send_once_more f_call_hear f_hear_message f_hear_and_answer f_answer_to f_hear_answer f_call_clear f_unsettled_gifts f_settle_gift f_call_paper f_entry_told f_call_tin f_call_counts f_call_message f_call_audit f_entries_of_depot f_is_alive f_is_under_way f_call_entry f_call_air f_answers f_answer_call f_are_in_range f_names_a_party f_answer_party f_answer_all f_call_arm
  case S =>
    intro K H xs a hO hwi hask hx
    cases hx with
    | cons h1 h2 =>
      cases h2
      cases h1 with
      | lst hs ha =>
        have e := L2.ints_dw a.1 _ ha
        subst e
        have q : ((Codec.inLen 0 16000 a.1 && a.1.all (Codec.inInt (_root_.Int.negSucc 9223372036854775807) (_root_.Int.ofNat 9223372036854775807))) && true) = true := hwi
        rw [Bool.and_eq_true, Bool.and_eq_true] at q
        exact ⟨_, a.1, rfl, RF.Fz.of hs hO, (Codec.inNat_iff.mp q.1.1).2, hask, fun H' p hp => .lst (L2.SqL.of hp) (L2.dw_ints _)⟩
end
