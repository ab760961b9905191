import PyProof.Rows.All
import Wide.All
import OpenK.AllK
import Wide.FinOn
import Lean
import PyProof.EqAt
import PyProof.EqKinds
import PyProof.TupleCall
import KE.KIsAll
import OpenK.KCls
import OpenK.KDescr
import OpenK.KMake
import OpenK.KOwn
import OpenK.KWalk
import PyProof.AutoSeq1
import PyProof.EnumMake
import PyProof.ExcClass3
import PyProof.InstStore
import PyProof.InstStoreFacts
import PyProof.StationsW
import PyProof.WalksEnum
import PyProof.ZipIter
import PySem.Challenge.RW_exitweave_k45_pieces_by_hand
-- CHANGE: your row's module here, as the last of these rows
set_option Elab.async false
set_option linter.all false
set_option maxRecDepth 100000
namespace L2
open PySem PySem.Spec PyProof.Rows
abbrev Key := Sum Int Str
def keyIs : Key → Value → Bool
  | .inl k, v => Value.isInt k v
  | .inr x, v => Value.isStrOf x v
def keyH (w : World) : Key → Int
  | .inl k => hashInt k
  | .inr x => hashStr w x
theorem keyIs_shape : ∀ {k : Key} {v : Value}, keyIs k v = true → (∃ i t, k = Sum.inl i ∧ v = Value.int i t) ∨ (∃ x t, k = Sum.inr x ∧ v = Value.str x t)
  | .inl i, v, h => by
    obtain ⟨t, e⟩ := Value.isInt_shape (k := i) (v := v) h
    exact .inl ⟨i, t, rfl, e⟩
  | .inr x, v, h => by
    obtain ⟨t, e⟩ := Value.isStrOf_shape (x := x) (v := v) h
    exact .inr ⟨x, t, rfl, e⟩
theorem keyIs_int (i : Int) (t : Tok) : keyIs (.inl i) (.int i t) = true := by simp [keyIs, Value.isInt]
theorem keyIs_str (x : Str) (t : Tok) : keyIs (.inr x) (.str x t) = true := by simp [keyIs, Value.isStrOf]
theorem key_ll (a b : Int) : decide ((Sum.inl a : Key) = Sum.inl b) = (a == b) := by
  by_cases e : a = b
  · subst e; simp
  · have h : ¬ (Sum.inl a : Key) = Sum.inl b := fun q => e (Sum.inl.inj q)
    rw [decide_eq_false h]
    exact (beq_eq_false_iff_ne.mpr e).symm
theorem key_rr (a b : Str) : decide ((Sum.inr a : Key) = Sum.inr b) = decide (a = b) := by
  by_cases e : a = b
  · subst e; simp
  · have h : ¬ (Sum.inr a : Key) = Sum.inr b := fun q => e (Sum.inr.inj q)
    rw [decide_eq_false h, decide_eq_false e]
theorem key_lr (a : Int) (b : Str) : decide ((Sum.inl a : Key) = Sum.inr b) = false := decide_eq_false (fun q => nomatch q)
theorem key_rl (a : Str) (b : Int) : decide ((Sum.inr a : Key) = Sum.inl b) = false := decide_eq_false (fun q => nomatch q)
def mixKind (prog : Program) (w : World) : PySem.KeyKind prog w Key where
  is := keyIs
  hash := keyH w
  inj := fun v a b ha hb => by
    rcases keyIs_shape ha with ⟨i, t, rfl, rfl⟩ | ⟨x, t, rfl, rfl⟩
    · rcases keyIs_shape hb with ⟨j, u, rfl, e⟩ | ⟨y, u, rfl, e⟩
      · injection e with e1 _; rw [e1]
      · exact nomatch e
    · rcases keyIs_shape hb with ⟨j, u, rfl, e⟩ | ⟨y, u, rfl, e⟩
      · exact nomatch e
      · injection e with e1 _; rw [e1]
  byValue := fun k v h => by
    rcases keyIs_shape h with ⟨i, t, rfl, rfl⟩ | ⟨x, t, rfl, rfl⟩ <;> rfl
  pyHash := fun hv h => by
    rcases keyIs_shape hv with ⟨i, t, rfl, rfl⟩ | ⟨x, t, rfl, rfl⟩
    · exact wpAny_pyHash_int h
    · exact wpAny_pyHash_str h
  eqBool := fun hu hv h => by
    rcases keyIs_shape hu with ⟨i, t, rfl, rfl⟩ | ⟨x, t, rfl, rfl⟩
    · rcases keyIs_shape hv with ⟨j, u, rfl, rfl⟩ | ⟨y, u, rfl, rfl⟩
      · rw [key_ll] at h; exact wpAny_eqBool_int h
      · rw [key_lr] at h; exact SeqAt.EqAt.int_str i t y u _ _ _ _ h
    · rcases keyIs_shape hv with ⟨j, u, rfl, rfl⟩ | ⟨y, u, rfl, rfl⟩
      · rw [key_rl] at h; exact SeqAt.EqAt.str_int x t j u _ _ _ _ h
      · rw [key_rr] at h; exact wpAny_eqBool_str h
  «strs» := fun k x t v h => by
    rcases keyIs_shape h with ⟨i, u, rfl, e⟩ | ⟨y, u, rfl, e⟩
    · exact nomatch e
    · injection e with e1 _
      subst e1
      cases v <;> rfl
theorem mixKind_int (prog : Program) (w : World) (i : Int) (t : Tok) : (mixKind prog w).is (.inl i) (.int i t) = true := keyIs_int i t
theorem mixKind_str (prog : Program) (w : World) (x : Str) (t : Tok) : (mixKind prog w).is (.inr x) (.str x t) = true := keyIs_str x t
end L2
namespace L2
open PySem PySem.Spec PyProof.Rows
inductive V where
  | non | bl (b : Bool) | int (i : Int) | str (x : Str) | byt (b : Array UInt8) | flt (b : UInt64) | ref (a : Addr) | ty (n : String)
  deriving DecidableEq
def RelV : V → Value → Prop
  | .non, u => u = Value.none
  | .bl b, u => u = Value.bool b
  | .int i, u => ∃ t, u = Value.int i t
  | .str x, u => ∃ t, u = Value.str x t
  | .byt b, u => ∃ t, u = Value.bytes b t
  | .flt b, u => ∃ t, u = Value.float b t
  | .ref a, u => u = Value.ref a
  | .ty n, u => u = Value.type n
abbrev Vals : List V → List Value → Prop := Paired RelV
theorem Vals.length {xs : List V} {us : List Value} (r : Vals xs us) : xs.length = us.length := Paired.length r
theorem Vals.get : ∀ {xs : List V} {us : List Value} {i : Nat} {x : V}, Vals xs us → xs[i]? = some x → ∃ u, us[i]? = some u ∧ RelV x u
  | _, _, _, _, .nil, e => by simp at e
  | _, _, 0, _, .cons r _, e => by simp at e; subst e; exact ⟨_, rfl, r⟩
  | _, _, i + 1, x, .cons _ t, e => by
    obtain ⟨u, h1, h2⟩ := Vals.get (i := i) (x := x) t (by simpa using e)
    exact ⟨u, by simpa using h1, h2⟩
theorem Vals.set {x : V} {u : Value} (r : RelV x u) : ∀ {xs : List V} {us : List Value} (i : Nat), Vals xs us → Vals (xs.set i x) (us.set i u)
  | _, _, _, .nil => .nil
  | _, _, 0, .cons _ t => .cons r t
  | _, _, i + 1, .cons q t => .cons q (Vals.set r i t)
theorem Vals.append : ∀ {xs ys : List V} {us ws : List Value}, Vals xs us → Vals ys ws → Vals (xs ++ ys) (us ++ ws)
  | _, _, _, _, .nil, s => s
  | _, _, _, _, .cons r t, s => .cons r (Vals.append t s)
theorem Vals.take : ∀ {xs : List V} {us : List Value} (n : Nat), Vals xs us → Vals (xs.take n) (us.take n)
  | _, _, 0, _ => .nil
  | _, _, _ + 1, .nil => .nil
  | _, _, n + 1, .cons r t => .cons r (Vals.take n t)
theorem Vals.drop : ∀ {xs : List V} {us : List Value} (n : Nat), Vals xs us → Vals (xs.drop n) (us.drop n)
  | _, _, 0, r => r
  | _, _, _ + 1, .nil => .nil
  | _, _, n + 1, .cons _ t => Vals.drop n t
def RelO : Option V → Option Value → Prop
  | some v, some u => RelV v u
  | none, none => True
  | _, _ => False
def KV {κ : Type} : List (κ × V) → List (κ × Value) → Prop := Paired fun (p : κ × V) (q : κ × Value) => p.1 = q.1 ∧ RelV p.2 q.2
def kV : Key → V
  | .inl i => .int i
  | .inr x => .str x
inductive HO where
  /-- a list -/
  | lst (xs : List V)
  /-- a tuple (never changes) -/
  | tup (xs : List V)
  /-- a dict whose keys are ints and texts; one whose keys are tuples of ints and texts (the empty one is both) -/
  | dK (kvs : List (Key × V)) | dT (kvs : List (List Key × V))
  /-- a set of ints: its members, its size -/
  | set (S : Int → Bool) (n : Nat)
  /-- an instance of the class at C, its dict at dx, its attributes -/
  | ins (C dx : Addr) (fs : List (Str × V))
  /-- the dict of the instance at x -/
  | own (x : Addr)
  /-- the dict of an exception -/
  | xd (fs : List (Str × V))
  /-- a bound method, f of x -/
  | met (f x : Addr)
  /-- a range object lo, lo + 1, .. below hi -/
  | rng (lo hi : Int)
  /-- a thing that is known to the object (the script; a dict while a loop walks it): read, never written while it is so -/
  | frz (o : Obj) (u : HO)
  /-- a code object's table -/
  | tbl (ps : Array Value)
  /-- any other thing, by what is true of its one object (a def of one's own: SetO a S n := HO.ext fun h => ..) -/
  | ext (φ : Heap → Prop)
abbrev Hp := Addr → Option HO
def upd (H : Hp) (a : Addr) (o : HO) : Hp := fun b => if b = a then some o else H b
theorem upd_same {H : Hp} {a : Addr} {o : HO} : upd H a o a = some o := by unfold upd; rw [if_pos rfl]
theorem upd_ne {H : Hp} {a b : Addr} {o : HO} (h : b ≠ a) : upd H a o b = H b := by unfold upd; rw [if_neg h]
theorem upd_upd {H : Hp} {a : Addr} {o u : HO} : upd (upd H a o) a u = upd H a u := by
  funext b; unfold upd; split <;> rfl
theorem ne_of {H : Hp} {a b : Addr} {o u : HO} (h : H a = some o) (h' : H b = some u) (d : o ≠ u) : a ≠ b := by
  intro e; subst e; rw [h] at h'; exact d (Option.some.inj h')
theorem ne_of_none {H : Hp} {a b : Addr} {o : HO} (h : H a = some o) (h' : H b = none) : a ≠ b := by
  intro e; subst e; rw [h] at h'; cases h'
section
variable (P : Program) (w : World)
def ObjOk (H : Hp) (h : Heap) (a : Addr) : HO → Prop
  | .lst xs => xs.length ≤ sizeLine ∧ ∃ (its : List Value) (n : Nat), Vals xs its ∧ h.get? a = some { cls := .type "list", data := .seq its.toArray n }
  | .tup xs => xs.length ≤ sizeLine ∧ ∃ its : List Value, Vals xs its ∧ IsTup h a its.toArray
  | .dK kvs => kvs.length ≤ sizeLine ∧ (a == sysModules) = false ∧ ∃ vs, KV kvs vs ∧ h.DictOf (mixKind P w) a vs
  | .dT kvs => kvs.length ≤ sizeLine ∧ (a == sysModules) = false ∧ ∃ xs : List (List Key × Addr × Value),
      Paired (fun (p : List Key × V) (q : List Key × Addr × Value) => p.1 = q.1 ∧ H q.2.1 = some (.tup (p.1.map kV)) ∧ RelV p.2 q.2.2) kvs xs ∧
      ∃ o es ep, h.get? a = some o ∧ o.ExactDict ∧ o.data = .dict es ep ∧ es.toList = xs.map (entryOfKey (tupleKind (mixKind P w))) ∧ (xs.map (·.1)).Nodup
  | .set S n => h.SetOf (intKind P w) a S n
  | .ins C dx fs => H dx = some (.own a) ∧ fs.length ≤ 1000 ∧ dx ≠ a ∧ h.get? a = some (PySem.W.instObj C dx) ∧
      ∃ mA, h.Ns1 dx mA ∧ (∀ f, RelO (fs.lookup f) (mA f)) ∧ PySem.Within mA (fs.map (·.1))
  | .own _ => ∃ o, h.get? a = some o
  | .xd fs => ∃ mA, h.Ns1 a mA ∧ ∀ f, RelO (fs.lookup f) (mA f)
  | .rng lo hi => ∃ t u v, h.get? a = some { cls := .type "range", data := .fields #[.int lo t, .int hi u, .int 1 v] }
  | .frz o u => h.get? a = some o ∧ ObjOk H h a u
  | .tbl ps => h.get? a = some { cls := .none, data := .fields ps }
  | .met f x => h.get? a = some (PySem.W.methodObj (.ref f) (.ref x))
  | .ext φ => φ h ∧ (∃ o, h.get? a = some o) ∧ ∀ h1 h2 : Heap, φ h1 → (∀ o, h1.get? a = some o → h2.get? a = some o) → φ h2
def HOk (H : Hp) (h : Heap) : Prop := ∀ a o, H a = some o → ObjOk P w H h a o
end
section
variable {P : Program} {w : World} {H H' : Hp} {h h' : Heap} {a : Addr} {o : HO}
theorem ObjOk.lt (x : ObjOk P w H h a o) : a < h.objs.size := by
  cases o with
  | lst xs => obtain ⟨_, _, _, _, e⟩ := x; exact Heap.lt_size e
  | tup xs => obtain ⟨_, _, _, p⟩ := x; exact p.lt
  | dK kvs => obtain ⟨_, _, _, _, o, _, _, e, _⟩ := x; exact Heap.lt_size e
  | dT kvs => obtain ⟨_, _, _, _, o, _, _, e, _⟩ := x; exact Heap.lt_size e
  | set S n => obtain ⟨o, _, _, _, e, _⟩ := x; exact Heap.lt_size e
  | ins C dx fs => obtain ⟨_, _, _, e, _⟩ := x; exact Heap.lt_size e
  | own y => obtain ⟨_, e⟩ := x; exact Heap.lt_size e
  | xd fs => obtain ⟨_, ⟨_, _, _, e, _⟩, _⟩ := x; exact Heap.lt_size e
  | rng lo hi => obtain ⟨_, _, _, e⟩ := x; exact Heap.lt_size e
  | frz ob u => obtain ⟨e, _⟩ := x; exact Heap.lt_size e
  | tbl ps => exact Heap.lt_size (show h.get? a = some _ from x)
  | met f y => exact Heap.lt_size (show h.get? a = some _ from x)
  | ext φ => obtain ⟨_, ⟨_, e⟩, _⟩ := x; exact Heap.lt_size e
theorem Paired.mapP {α β : Type} {F G : α → β → Prop} : ∀ {l₁ : List α} {l₂ : List β}, Paired F l₁ l₂ → (∀ a b, F a b → G a b) → Paired G l₁ l₂
  | _, _, .nil, _ => .nil
  | _, _, .cons r t, f => .cons (f _ _ r) (Paired.mapP t f)
theorem ObjOk.stay (x : ObjOk P w H h a o) (k : ∀ b u, (b = a ∨ H b = some (.own a)) → h.get? b = some u → h'.get? b = some u)
    (ho : ∀ b, H b = some (.own a) → H' b = some (.own a)) (ht : ∀ b xs, H b = some (.tup xs) → H' b = some (.tup xs)) : ObjOk P w H' h' a o := by
  induction o with
  | lst xs => obtain ⟨z, its, n, r, e⟩ := x; exact ⟨z, its, n, r, k _ _ (.inl rfl) e⟩
  | tup xs => obtain ⟨z, its, r, ob, e, c⟩ := x; exact ⟨z, its, r, ob, k _ _ (.inl rfl) e, c⟩
  | dK kvs => obtain ⟨z, y, vs, r, ob, es, ep, e, c⟩ := x; exact ⟨z, y, vs, r, ob, es, ep, k _ _ (.inl rfl) e, c⟩
  | dT kvs =>
    obtain ⟨z, y, xs, r, ob, es, ep, e, c⟩ := x
    exact ⟨z, y, xs, Paired.mapP r fun p q z => ⟨z.1, ht _ _ z.2.1, z.2.2⟩, ob, es, ep, k _ _ (.inl rfl) e, c⟩
  | set S n => obtain ⟨ob, es, ep, t, e, c⟩ := x; exact ⟨ob, es, ep, t, k _ _ (.inl rfl) e, c⟩
  | ins C dx fs =>
    obtain ⟨d, z, ne, e, mA, ⟨od, es, ep, e2, c⟩, r⟩ := x
    exact ⟨ho _ d, z, ne, k _ _ (.inl rfl) e, mA, ⟨od, es, ep, k _ _ (.inr d) e2, c⟩, r⟩
  | own y => obtain ⟨ob, e⟩ := x; exact ⟨ob, k _ _ (.inl rfl) e⟩
  | xd fs => obtain ⟨mA, ⟨od, es, ep, e, c⟩, r⟩ := x; exact ⟨mA, ⟨od, es, ep, k _ _ (.inl rfl) e, c⟩, r⟩
  | rng lo hi => obtain ⟨t, u, v, e⟩ := x; exact ⟨t, u, v, k _ _ (.inl rfl) e⟩
  | frz ob u ih => obtain ⟨e, q⟩ := x; exact ⟨k _ _ (.inl rfl) e, ih q⟩
  | tbl ps =>
    have e : h.get? a = some { cls := .none, data := .fields ps } := x
    show h'.get? a = some { cls := .none, data := .fields ps }
    exact k a _ (.inl rfl) e
  | met f y =>
    have e : h.get? a = some (PySem.W.methodObj (.ref f) (.ref y)) := x
    show h'.get? a = some (PySem.W.methodObj (.ref f) (.ref y))
    exact k a _ (.inl rfl) e
  | ext φ => obtain ⟨p, ⟨o, e⟩, st⟩ := x; exact ⟨st _ _ p fun o q => k _ _ (.inl rfl) q, ⟨o, k _ _ (.inl rfl) e⟩, st⟩
theorem HOk.lt (x : HOk P w H h) (e : H a = some o) : a < h.objs.size := (x a o e).lt
theorem HOk.fresh (x : HOk P w H h) (e : h.objs.size ≤ a) : H a = none := by
  cases q : H a with
  | none => rfl
  | some u => exact absurd (Nat.lt_of_lt_of_le (x.lt q) e) (Nat.lt_irrefl _)
theorem HOk.kept (x : HOk P w H h) (k : ∀ b u, h.get? b = some u → h'.get? b = some u) : HOk P w H h' := fun a o e =>
  (x a o e).stay (fun b u _ q => k b u q) (fun _ q => q) fun _ _ q => q
theorem HOk.laid (x : HOk P w H h) (k : ∀ b u, h.get? b = some u → h'.get? b = some u) (hp : h.objs.size ≤ a) (new : ObjOk P w (upd H a o) h' a o) : HOk P w (upd H a o) h' := fun b u e => by
  have hn := x.fresh hp
  by_cases hb : b = a
  · subst hb; rw [upd_same] at e; cases e; exact new
  · rw [upd_ne hb] at e
    exact (x b u e).stay (fun c v _ q => k c v q) (fun c q => by rw [upd_ne (ne_of_none q hn)]; exact q) fun c xs q => by rw [upd_ne (ne_of_none q hn)]; exact q
end
def Rd (H : Hp) (a : Addr) (u : HO) : Prop := H a = some u ∨ ∃ o, H a = some (.frz o u)
theorem Rd.ok {P : Program} {w : World} {H : Hp} {h : Heap} {a : Addr} {u : HO} (r : Rd H a u) (x : HOk P w H h) : ObjOk P w H h a u := by
  rcases r with r | ⟨o, r⟩
  · exact x a u r
  · obtain ⟨_, q⟩ := x a _ r
    exact q
def Mut : Option HO → Prop
  | some (.lst _) => True
  | some (.dK _) => True
  | some (.dT _) => True
  | some (.set _ _) => True
  | some (.ins _ _ _) => True
  | some (.ext _) => True
  | _ => False
section
variable {P : Program} {w : World} {H : Hp} {h h' : Heap} {x e : Addr} {o' : HO}
theorem HOk.write (ok : HOk P w H h) (mu : Mut (H x)) (he : e = x ∨ H e = some (.own x)) (k : ∀ b u, b ≠ e → h.get? b = some u → h'.get? b = some u) (heo : ∃ u, h'.get? e = some u)
    (new : ObjOk P w (upd H x o') h' x o') : HOk P w (upd H x o') h' := fun b u q => by
  have nown : ∀ c y, H c = some (.own y) → c ≠ x := fun c y r z => by subst z; rw [r] at mu; exact mu
  have ntup : ∀ c xs, H c = some (.tup xs) → c ≠ x := fun c xs r z => by subst z; rw [r] at mu; exact mu
  by_cases hb : b = x
  · subst hb; rw [upd_same] at q; cases q; exact new
  · rw [upd_ne hb] at q
    by_cases hbe : b = e
    · have q' : H b = some (.own x) := by
        rcases he with z | z
        · exact absurd (hbe.trans z) hb
        · rw [hbe]; exact z
      rw [q] at q'; cases q'
      obtain ⟨v, hv⟩ := heo
      exact ⟨v, by rw [hbe]; exact hv⟩
    · refine (ok b u q).stay (fun c v hc r => k c v ?_ r) (fun c r => by rw [upd_ne (nown c b r)]; exact r) fun c xs r => by rw [upd_ne (ntup c xs r)]; exact r
      rcases hc with rfl | hc
      · exact hbe
      · rintro rfl
        rcases he with z | z
        · exact nown c b hc z
        · rw [hc] at z; cases z; exact hb rfl
end
structure Un (fs ex : List Addr) (H H' : Hp) (h h' : Heap) : Prop where
  keep : ∀ b o, h.get? b = some o → H b = none → b ∉ fs → b ∉ ex → h'.get? b = some o
  slot : ∀ b o, h.get? b = some o → H b = none → b ∈ fs → b ∉ ex → ∃ sl, h'.get? b = some { o with slots := sl }
  free : ∀ b o, h.get? b = some o → H b = none → b ∉ ex → H' b = none
  there : ∀ b o, h.get? b = some o → b ∉ ex → ∃ o', h'.get? b = some o'
  tups : ∀ b xs, H b = some (.tup xs) → H' b = some (.tup xs)
  frzs : ∀ b o u, H b = some (.frz o u) → H' b = some (.frz o u)
  tbls : ∀ b ps, H b = some (.tbl ps) → ∃ more, H' b = some (.tbl (ps ++ more))
section
variable {fs fs' ex ex' : List Addr} {H H1 H2 : Hp} {h h1 h2 h' : Heap} {a x e : Addr} {o : HO}
theorem Un.any (u : Un fs ex H H1 h h1) {b : Addr} {ob : Obj} (q : h.get? b = some ob) (n : H b = none) (hx : b ∉ ex) : ∃ sl, h1.get? b = some { ob with slots := sl } := by
  by_cases hb : b ∈ fs
  · exact u.slot b ob q n hb hx
  · exact ⟨ob.slots, u.keep b ob q n hb hx⟩
theorem Un.kept (k : ∀ b u, h.get? b = some u → h'.get? b = some u) : Un fs ex H H h h' :=
  ⟨fun b ob q _ _ _ => k b ob q, fun b ob q _ _ _ => ⟨ob.slots, k b ob q⟩, fun _ _ _ n _ => n, fun b ob q _ => ⟨ob, k b ob q⟩, fun _ _ q => q, fun _ _ _ q => q, fun _ ps q => ⟨#[], by rw [q]; simp⟩⟩
theorem Un.refl : Un fs ex H H h h := Un.kept fun _ _ q => q
theorem Un.laid (k : ∀ b u, h.get? b = some u → h'.get? b = some u) (hp : h.objs.size ≤ a) (hn : H a = none) : Un fs ex H (upd H a o) h h' where
  keep := fun b u q _ _ _ => k b u q
  slot := fun b u q _ _ _ => ⟨u.slots, k b u q⟩
  free := fun b u q n _ => by rw [upd_ne (Nat.ne_of_lt (Nat.lt_of_lt_of_le (Heap.lt_size q) hp))]; exact n
  there := fun b u q _ => ⟨u, k b u q⟩
  tups := fun b xs q => by rw [upd_ne (ne_of_none q hn)]; exact q
  frzs := fun b u xs q => by rw [upd_ne (ne_of_none q hn)]; exact q
  tbls := fun b ps q => ⟨#[], by rw [upd_ne (ne_of_none q hn), q]; simp⟩
theorem Un.write (mu : Mut (H x)) (he : e = x ∨ H e = some (.own x)) (k : ∀ b u, b ≠ e → h.get? b = some u → h'.get? b = some u) (heo : ∃ u, h'.get? e = some u) : Un fs ex H (upd H x o) h h' := by
  have hx : ∀ b, H b = none → b ≠ x := fun b n z => by subst z; rw [n] at mu; exact mu
  have hb : ∀ b, H b = none → b ≠ e := fun b n z => by
    subst z
    rcases he with r | r
    · exact hx b n r
    · rw [n] at r; cases r
  have hm : ∀ b u, H b = some u → ¬ Mut (some u) → b ≠ x := fun b u q nm z => by subst z; rw [q] at mu; exact nm mu
  refine ⟨fun b u q n _ _ => k b u (hb b n) q, fun b u q n _ _ => ⟨u.slots, k b u (hb b n) q⟩, fun b u q n _ => by rw [upd_ne (hx b n)]; exact n, fun b u q _ => ?_,
    fun b xs q => by rw [upd_ne (hm b _ q fun z => z)]; exact q, fun b u xs q => by rw [upd_ne (hm b _ q fun z => z)]; exact q, fun b ps q => ⟨#[], by rw [upd_ne (hm b _ q fun z => z), q]; simp⟩⟩
  by_cases hbe : b = e
  · subst hbe; exact heo
  · exact ⟨u, k b u hbe q⟩
end
def trk (h : Heap) (H : Hp) : List Addr := (List.range h.objs.size).filter fun a => (H a).isSome
def hidT (h : Heap) (H : Hp) : Heap := PySem.W.hideAll h (trk h H)
theorem hidT_size (h : Heap) (H : Hp) : (hidT h H).objs.size = h.objs.size := PySem.W.hideAll_size _ _
theorem hidT_get {h : Heap} {H : Hp} {b : Addr} {o : Obj} (e : h.get? b = some o) (n : H b = none) : (hidT h H).get? b = some o :=
  PySem.W.hideAll_get _ e fun hm => by
    have q : (H b).isSome = true := (List.mem_filter.mp hm).2
    rw [n] at q; simp at q
theorem of_hidT {h : Heap} {H : Hp} {b : Addr} {o : Obj} (e : (hidT h H).get? b = some o) : h.get? b = some o ∧ H b = none := by
  have e' : h.get? b = some o := PySem.W.of_hideAll (trk h H) e
  refine ⟨e', ?_⟩
  cases q : H b with
  | none => rfl
  | some x =>
    have hm : b ∈ trk h H := List.mem_filter.mpr ⟨List.mem_range.mpr (Heap.lt_size e'), by simp [q]⟩
    have z : (hidT h H).get? b = none := PySem.W.hideAll_none (trk h H) hm
    rw [z] at e; cases e
end L2
namespace L2
open PySem PySem.Spec PyProof.Rows
structure Mod (K : PySem.W.Frag) (mg : Str → Option Value) (base : Heap) : Prop where
  kin : K.In base
  glob : base.Ns mainGlobals mg
  blt : ∃ mb, base.Ns builtinsNs mb ∧ ∀ x : Str, x ≠ "__name__" → mb x = bootBuiltins x
  nolimit : base.NoLimit
structure Cx where
  prog : Program
  w : World
  K : PySem.W.Frag
  mg : Str → Option Value
  base : Heap
  A : Around
  N : List Str
  s₀ : Shared
  H₀ : Hp
  env : Env
  outer : List Env
  stack : List Env
  ex : List Addr
  fn : Str → Bool
  calm : Bool
  pn : List (Addr × Obj)
  xe : Value → Shared → Prop
def frs (l : List Env) : List Addr := l.filterMap (·.frame)
abbrev Cx.fs (X : Cx) : List Addr := frs X.outer
def Vis (sc : Scope) (x : Str) : Prop := sc.names.lookup x = some .local ∨ sc.names.lookup x = some .cell ∨ sc.names.lookup x = some .free
def Loc (sc : Scope) (x : Str) : Prop := sc.names.lookup x = some .local ∨ sc.names.lookup x = some .cell
def Look (env : Env) (h : Heap) (m : Str → Option Value) (x : Str) (u : Value) : Prop :=
  (env.kindOf x = some .local ∧ m x = some u) ∨ ((env.kindOf x = some .cell ∨ env.kindOf x = some .free) ∧ ∃ c, env.cells.lookup x = some c ∧ h.IsCell c (some u))
structure Cx.Ok (X : Cx) : Prop where
  mod : Mod X.K X.mg X.base
  kind : X.env.scope.kind = .function
  glob : X.env.globals = mainGlobals
  blt : X.env.builtins = builtinsNs
  above : X.s₀.heap.objs.size ≤ X.env.locals
  inj : ∀ x y c, X.env.cells.lookup x = some c → X.env.cells.lookup y = some c → x = y
  has : ∀ x, (X.env.kindOf x = some .cell ∨ X.env.kindOf x = some .free) → ∃ c, X.env.cells.lookup x = some c
  cab : ∀ x c, X.fn x = true → X.env.cells.lookup x = some c → X.s₀.heap.objs.size ≤ c
  hd : X.calm = true → X.A.handled = none
  frames : X.A.frames = some X.stack
  stk : X.stack = X.outer ∨ (X.stack = X.env :: X.outer ∧ X.env.frame = some X.env.locals)
  exf : ∀ b ∈ X.ex, b ≠ X.env.locals ∧ ∀ x c, X.env.cells.lookup x = some c → c ≠ b
  bs : ∀ b o, X.base.get? b = some o → X.s₀.heap.get? b = some o ∧ X.H₀ b = none
  bsz : X.base.objs.size ≤ X.s₀.heap.objs.size
  noex : ∀ b o, X.base.get? b = some o → b ∉ X.ex
  exfs : ∀ b ∈ X.ex, b ∉ X.fs
  funs : X.s₀.heap.FunFrames X.base X.outer
  frf : ∀ b ∈ X.fs, X.H₀ b = none
structure Inv (X : Cx) (pins : List (Addr × Obj)) (σ : List (Option V)) (H : Hp) (s : Shared) : Prop where
  ok : X.Ok
  os : s.os = X.s₀.os
  bare : AllBare s.gens
  base : Un X.fs X.ex X.H₀ H X.s₀.heap s.heap
  loc : ∃ m, s.heap.Ns X.env.locals m ∧ ∀ (i : Nat) (x : Str) (v : V), X.N[i]? = some x → σ[i]? = some (some v) → Vis X.env.scope x → ∃ u, RelV v u ∧ Look X.env s.heap m x u
  cell : ∀ x c, X.env.cells.lookup x = some c → ∃ v, s.heap.IsCell c v
  free : H X.env.locals = none
  freeC : ∀ x c, X.env.cells.lookup x = some c → H c = none
  pin : ∀ p ∈ X.pn ++ pins, s.heap.get? p.1 = some p.2 ∧ H p.1 = none ∧ p.1 ≠ X.env.locals ∧ p.1 ∉ X.fs ∧ ∀ v, p.2.data ≠ .cell v
  hok : HOk X.prog X.w H s.heap
  len : σ.length = X.N.length
section
variable {X : Cx} {pins : List (Addr × Obj)} {σ : List (Option V)} {H H' : Hp} {s : Shared} {h' : Heap}
theorem Cx.Ok.nofr (ok : X.Ok) {b : Addr} {o : Obj} (e : X.base.get? b = some o) : b ∉ X.fs := fun hb => by
  have := (ok.funs.mem hb).1
  rw [e] at this; cases this
theorem Inv.bs (I : Inv X pins σ H s) : ∀ b o, X.base.get? b = some o → s.heap.get? b = some o ∧ H b = none := fun b o e =>
  ⟨I.base.keep b o (I.ok.bs b o e).1 (I.ok.bs b o e).2 (I.ok.nofr e) (I.ok.noex b o e), I.base.free b o (I.ok.bs b o e).1 (I.ok.bs b o e).2 (I.ok.noex b o e)⟩
theorem Inv.bk (I : Inv X pins σ H s) : ∀ b o, X.base.get? b = some o → s.heap.get? b = some o := fun b o e => (I.bs b o e).1
theorem Inv.mod (I : Inv X pins σ H s) : Mod X.K X.mg X.base := I.ok.mod
theorem Inv.kIn (I : Inv X pins σ H s) : X.K.In s.heap := I.ok.mod.kin.keeps I.bk
theorem Inv.lt (I : Inv X pins σ H s) : X.env.locals < s.heap.objs.size := let ⟨_, hn, _⟩ := I.loc; hn.lt
theorem Inv.sz (I : Inv X pins σ H s) : X.s₀.heap.objs.size ≤ s.heap.objs.size := Nat.le_trans I.ok.above (Nat.le_of_lt I.lt)
theorem Inv.nofs (I : Inv X pins σ H s) {a : Addr} (h : s.heap.objs.size ≤ a) : a ∉ X.fs := fun hb => by
  obtain ⟨_, o, ho, _⟩ := I.ok.funs.mem hb
  exact absurd (Nat.lt_of_lt_of_le (Heap.lt_size ho) (Nat.le_trans I.sz h)) (Nat.lt_irrefl _)
theorem Inv.cne (I : Inv X pins σ H s) : ∀ x c, X.env.cells.lookup x = some c → c ≠ X.env.locals := fun x c e z => by
  obtain ⟨v, o, ho, hd⟩ := I.cell x c e
  obtain ⟨m, ⟨o', es, ep, ho', hd', _⟩, _⟩ := I.loc
  rw [z, ho'] at ho; cases ho; rw [hd'] at hd; cases hd
theorem Inv.funs (I : Inv X pins σ H s) : s.heap.FunFrames X.base X.outer := by
  have all : ∀ (l : List Env), (∀ b ∈ frs l, b ∈ X.fs) → X.s₀.heap.FunFrames X.base l → s.heap.FunFrames X.base l := by
    intro l
    induction l with
    | nil => intro _ _; trivial
    | cons env r ih =>
      intro hs hl
      obtain ⟨hk, ⟨L, o, hf, hn, ho, hd⟩, hr⟩ := hl
      have hL : L ∈ X.fs := hs L (by unfold frs; rw [List.filterMap_cons, hf]; exact List.mem_cons_self)
      obtain ⟨sl, e⟩ := I.base.slot L o ho (I.ok.frf L hL) hL fun z => I.ok.exfs L z hL
      exact ⟨hk, ⟨L, _, hf, hn, e, hd⟩, ih (fun b hb => hs b (by unfold frs; rw [List.filterMap_cons, hf]; exact List.mem_cons_of_mem _ hb)) hr⟩
  exact all X.outer (fun _ hb => hb) I.ok.funs
theorem Inv.stack (I : Inv X pins σ H s) : s.heap.FunFrames X.base X.stack := by
  rcases I.ok.stk with e | ⟨e, hf⟩
  · rw [e]; exact I.funs
  · rw [e]
    obtain ⟨m, hn, _⟩ := I.loc
    refine .cons (by rw [I.ok.kind]; decide) hf hn ?_ I.funs
    exact Heap.get?_none_of_le (Nat.le_trans I.ok.bsz I.ok.above)
theorem Inv.stkSub (I : Inv X pins σ H s) : ∀ b ∈ frs X.stack, b ∈ X.env.locals :: X.fs := fun b hb => by
  rcases I.ok.stk with e | ⟨e, hf⟩
  · rw [e] at hb; exact List.mem_cons_of_mem _ hb
  · rw [e] at hb
    unfold frs at hb
    rw [List.filterMap_cons, hf] at hb
    exact hb
theorem Inv.stkFree (I : Inv X pins σ H s) : ∀ b ∈ frs X.stack, H b = none := fun b hb => by
  rcases List.mem_cons.mp (I.stkSub b hb) with e | hb
  · rw [e]; exact I.free
  · obtain ⟨_, o, ho, _⟩ := I.ok.funs.mem hb
    exact I.base.free b o ho (I.ok.frf b hb) fun z => I.ok.exfs b z hb
theorem Inv.step {g' : Array GenState} {t' : Nat} {d' : Drawn} {ch : List Addr} (I : Inv X pins σ H s)
    (hch : ∀ b ∈ ch, (b ∈ X.ex ∨ X.s₀.heap.objs.size ≤ b) ∧ b ≠ X.env.locals ∧ (∀ x c, X.env.cells.lookup x = some c → c ≠ b) ∧ ∀ p ∈ X.pn ++ pins, p.1 ≠ b)
    (keep : ∀ b o, b ≠ X.env.locals → b ∉ X.fs → b ∉ ch → s.heap.get? b = some o → H b = none → h'.get? b = some o)
    (slot : ∀ b o, b ≠ X.env.locals → b ∈ X.fs → b ∉ ch → s.heap.get? b = some o → H b = none → ∃ sl, h'.get? b = some { o with slots := sl }) (free : ∀ b o, b ∉ ch → s.heap.get? b = some o → H b = none → H' b = none)
    (there : ∀ b o, b ∉ ch → s.heap.get? b = some o → ∃ o', h'.get? b = some o')
    (tups : ∀ b xs, H b = some (.tup xs) → H' b = some (.tup xs)) (frzs : ∀ b o u, H b = some (.frz o u) → H' b = some (.frz o u)) (tbls : ∀ b ps, H b = some (.tbl ps) → ∃ more, H' b = some (.tbl (ps ++ more)))
    (ns : ∀ m, s.heap.Ns X.env.locals m → h'.Ns X.env.locals m) (hok : HOk X.prog X.w H' h') (hg : AllBare g') :
    Inv X pins σ H' { s with heap := h', gens := g', drawn := d', toks := t' } := by
  have neL : ∀ b o, X.s₀.heap.get? b = some o → b ≠ X.env.locals := fun b o e => Nat.ne_of_lt (Nat.lt_of_lt_of_le (Heap.lt_size e) I.ok.above)
  have neC : ∀ b o, X.s₀.heap.get? b = some o → b ∉ X.ex → b ∉ ch := fun b o e hx hb => by
    rcases (hch b hb).1 with z | z
    · exact hx z
    · exact absurd (Nat.lt_of_lt_of_le (Heap.lt_size e) z) (Nat.lt_irrefl _)
  have cellK : ∀ x c, X.env.cells.lookup x = some c → ∀ v, s.heap.IsCell c v → h'.IsCell c v := fun x c e v ⟨o, ho, hd⟩ => by
    have nch : c ∉ ch := fun z => (hch c z).2.2.1 x c e rfl
    by_cases hc : c ∈ X.fs
    · obtain ⟨sl, q⟩ := slot c o (I.cne x c e) hc nch ho (I.freeC x c e)
      exact ⟨_, q, hd⟩
    · exact ⟨o, keep c o (I.cne x c e) hc nch ho (I.freeC x c e), hd⟩
  refine ⟨I.ok, I.os, hg, ⟨fun b o e n hb hx => ?_, fun b o e n hb hx => ?_, fun b o e n hx => ?_, fun b o e hx => ?_, fun b xs e => tups b xs (I.base.tups b xs e), fun b o xs e => frzs b o xs (I.base.frzs b o xs e), fun b ps e => ?_⟩, ?_, fun x c e => ?_, ?_, fun x c e => ?_, fun p hp => ?_, hok, I.len⟩
  · exact keep b o (neL b o e) hb (neC b o e hx) (I.base.keep b o e n hb hx) (I.base.free b o e n hx)
  · obtain ⟨sl, e1⟩ := I.base.slot b o e n hb hx
    obtain ⟨sl', e2⟩ := slot b _ (neL b o e) hb (neC b o e hx) e1 (I.base.free b o e n hx)
    exact ⟨sl', e2⟩
  · obtain ⟨o', e1⟩ := I.base.there b o e hx
    exact free b o' (neC b o e hx) e1 (I.base.free b o e n hx)
  · obtain ⟨o', e1⟩ := I.base.there b o e hx
    exact there b o' (neC b o e hx) e1
  · obtain ⟨m1, e1⟩ := I.base.tbls b ps e
    obtain ⟨m2, e2⟩ := tbls b _ e1
    exact ⟨m1 ++ m2, by rw [e2, Array.append_assoc]⟩
  · obtain ⟨m, hn, hl⟩ := I.loc
    refine ⟨m, ns m hn, fun i x v e1 e2 e3 => ?_⟩
    obtain ⟨u, r, l⟩ := hl i x v e1 e2 e3
    refine ⟨u, r, ?_⟩
    rcases l with l | ⟨k, c, e, z⟩
    · exact .inl l
    · exact .inr ⟨k, c, e, cellK x c e _ z⟩
  · obtain ⟨v, z⟩ := I.cell x c e
    exact ⟨v, cellK x c e v z⟩
  · obtain ⟨m, ⟨o, _, _, ho, _⟩, _⟩ := I.loc
    exact free _ o (fun z => (hch _ z).2.1 rfl) ho I.free
  · obtain ⟨v, o, ho, hd⟩ := I.cell x c e
    exact free c o (fun z => (hch c z).2.2.1 x c e rfl) ho (I.freeC x c e)
  · obtain ⟨e, n, ne, nf, d⟩ := I.pin p hp
    have nch : p.1 ∉ ch := fun z => (hch p.1 z).2.2.2 p hp rfl
    exact ⟨keep p.1 p.2 ne nf nch e n, free p.1 p.2 nch e n, ne, nf, d⟩
theorem Inv.un {t' : Nat} (I : Inv X pins σ H s) (u : Un X.fs [] H H' s.heap h') (hok : HOk X.prog X.w H' h') : Inv X pins σ H' { s with heap := h', toks := t' } := by
  obtain ⟨m, ⟨o, es, ep, ho, r⟩, _⟩ := id I.loc
  obtain ⟨sl, hL⟩ := u.any ho I.free (by simp)
  exact I.step (g' := s.gens) (d' := s.drawn) (ch := []) (fun _ z => nomatch z) (fun b o _ hb _ e n => u.keep b o e n hb (by simp)) (fun b o _ hb _ e n => u.slot b o e n hb (by simp)) (fun b o _ e n => u.free b o e n (by simp)) (fun b o _ e => u.there b o e (by simp)) u.tups u.frzs u.tbls (fun m' hm => by
    obtain ⟨o', es', ep', ho', r'⟩ := hm
    rw [ho] at ho'; cases ho'
    exact ⟨_, es', ep', hL, r'⟩) hok I.bare
theorem Inv.call {g' : Array GenState} {t' : Nat} {d' : Drawn} {ch : List Addr} (I : Inv X pins σ H s) (u : Un (frs X.stack) ch H H' s.heap h') (hok : HOk X.prog X.w H' h') (hg : AllBare g')
    (hch : ∀ b ∈ ch, (b ∈ X.ex ∨ X.s₀.heap.objs.size ≤ b) ∧ b ≠ X.env.locals ∧ (∀ x c, X.env.cells.lookup x = some c → c ≠ b) ∧ ∀ p ∈ X.pn ++ pins, p.1 ≠ b) :
    Inv X pins σ H' { s with heap := h', gens := g', drawn := d', toks := t' } := by
  obtain ⟨m, ⟨o, es, ep, ho, r⟩, _⟩ := id I.loc
  obtain ⟨sl, hL⟩ := u.any ho I.free fun z => (hch _ z).2.1 rfl
  exact I.step (ch := ch) hch (fun b o hL hb hc e n => u.keep b o e n (fun z => (List.mem_cons.mp (I.stkSub b z)).elim hL hb) hc) (fun b o _ _ hc e n => u.any e n hc) (fun b o hc e n => u.free b o e n hc) (fun b o hc e => u.there b o e hc) u.tups u.frzs u.tbls (fun m' hm => by
    obtain ⟨o', es', ep', ho', r'⟩ := hm
    rw [ho] at ho'; cases ho'
    exact ⟨_, es', ep', hL, r'⟩) hok hg
theorem Inv.turned {t' : Nat} {it : Addr} (I : Inv X pins σ H s) (k : ∀ b o, b ≠ it → s.heap.get? b = some o → h'.get? b = some o) (hn : H it = none) (hL : it ≠ X.env.locals)
    (h1 : it ∈ X.ex ∨ X.s₀.heap.objs.size ≤ it) (h2 : ∀ x c, X.env.cells.lookup x = some c → c ≠ it) (h3 : ∀ p ∈ X.pn ++ pins, p.1 ≠ it) : Inv X pins σ H { s with heap := h', toks := t' } := by
  have nit : ∀ b u, H b = some u → b ≠ it := fun b u e z => by rw [z, hn] at e; cases e
  refine I.step (g' := s.gens) (d' := s.drawn) (ch := [it]) (fun b hb => ?_) (fun b o _ _ hc e _ => k b o (fun z => hc (by simp [z])) e) (fun b o _ _ hc e _ => ⟨o.slots, k b o (fun z => hc (by simp [z])) e⟩) (fun _ _ _ _ n => n)
    (fun b o hc e => ⟨o, k b o (fun z => hc (by simp [z])) e⟩) (fun _ _ e => e) (fun _ _ _ e => e) (fun b ps e => ⟨#[], by rw [e]; simp⟩) (fun m hm => ?_) (fun b u e => ?_) I.bare
  · have e : b = it := by simpa using hb
    subst e
    exact ⟨h1, hL, h2, h3⟩
  · obtain ⟨o, es, ep, ho, r⟩ := hm
    exact ⟨o, es, ep, k _ o (Ne.symm hL) ho, r⟩
  · refine (I.hok b u e).stay (fun c v hc q => k c v ?_ q) (fun _ q => q) fun _ _ q => q
    rcases hc with z | z
    · rw [z]; exact nit b u e
    · exact nit c _ z
theorem Inv.tok (I : Inv X pins σ H s) (t : Nat) : Inv X pins σ H { s with toks := t } := I.un (h' := s.heap) (t' := t) Un.refl I.hok
theorem Inv.kept {t' : Nat} (I : Inv X pins σ H s) (k : ∀ b u, s.heap.get? b = some u → h'.get? b = some u) : Inv X pins σ H { s with heap := h', toks := t' } := I.un (Un.kept k) (I.hok.kept k)
theorem Inv.laid {a : Addr} {o : HO} {t' : Nat} (I : Inv X pins σ H s) (k : ∀ b u, s.heap.get? b = some u → h'.get? b = some u) (hp : s.heap.objs.size ≤ a) (new : ObjOk X.prog X.w (upd H a o) h' a o) :
    Inv X pins σ (upd H a o) { s with heap := h', toks := t' } := I.un (Un.laid k hp (I.hok.fresh hp)) (I.hok.laid k hp new)
theorem Inv.write {x e : Addr} {o : HO} {t' : Nat} (I : Inv X pins σ H s) (mu : Mut (H x)) (he : e = x ∨ H e = some (.own x)) (k : ∀ b u, b ≠ e → s.heap.get? b = some u → h'.get? b = some u) (heo : ∃ u, h'.get? e = some u)
    (new : ObjOk X.prog X.w (upd H x o) h' x o) : Inv X pins σ (upd H x o) { s with heap := h', toks := t' } := I.un (Un.write mu he k heo) (I.hok.write mu he k heo new)
theorem Inv.pins_of {pins' : List (Addr × Obj)} (I : Inv X pins σ H s) (h : ∀ p ∈ pins', s.heap.get? p.1 = some p.2 ∧ H p.1 = none ∧ p.1 ≠ X.env.locals ∧ p.1 ∉ X.fs ∧ ∀ v, p.2.data ≠ .cell v) : Inv X pins' σ H s :=
  ⟨I.ok, I.os, I.bare, I.base, I.loc, I.cell, I.free, I.freeC, fun p hp => (List.mem_append.mp hp).elim (fun z => I.pin p (List.mem_append_left _ z)) (h p), I.hok, I.len⟩
theorem nodup_ix {N : List Str} (hN : N.Nodup) {i j : Nat} {x : Str} (a : N[i]? = some x) (b : N[j]? = some x) : i = j := by
  obtain ⟨h1, e1⟩ := List.getElem?_eq_some_iff.mp a
  obtain ⟨h2, e2⟩ := List.getElem?_eq_some_iff.mp b
  exact (List.getElem_inj hN).mp (e1.trans e2.symm)
theorem store_ok2 {M : Model} {A : Around} {E : Value → Shared → Prop} {i : Nat} {x : Str} {v : V} {u : Value} {Q : Unit → Shared → Prop} (I : Inv X pins σ H s) (hN : X.N.Nodup) (hi : X.N[i]? = some x) (hx : Loc X.env.scope x) (r : RelV v u)
    (h : ∀ s', Inv X pins (σ.set i (some v)) H s' → (∃ a, Heap.SameBut a s.heap s'.heap ∧ (a = X.env.locals ∨ X.env.cells.lookup x = some a)) → Q () s') (hf : X.fn x = true ∨ X.env.scope.names.lookup x = some .local := by first | exact .inl rfl | exact .inr rfl | assumption) : wpAny M A (storeName X.env x u) Q E s := by
  obtain ⟨m, hn, hl⟩ := id I.loc
  have hcls : (X.env.scope.kind == .class || (X.env.scope.kind == .module && X.env.locals != X.env.globals)) = false := by rw [I.ok.kind]; rfl
  have hiσ : i < σ.length := by rw [I.len]; exact (List.getElem?_eq_some_iff.mp hi).1
  have cne := I.cne
  have tracked : ∀ {a : Addr} {h' : Heap}, (∃ o, s.heap.get? a = some o ∧ H a = none) → Heap.SameBut a s.heap h' → HOk X.prog X.w H h' := fun {a h'} ha hs b ob e => by
    obtain ⟨_, _, hfree⟩ := ha
    refine (I.hok b ob e).stay (fun c w' hc q => (hs.2 c ?_).trans q) (fun _ q => q) fun _ _ q => q
    rintro rfl
    rcases hc with rfl | hc
    · rw [hfree] at e; cases e
    · rw [hfree] at hc; cases hc
  rcases hx with hk | hk
  · refine wpAny_storeName_local hk hn (fun h' hn' hs => ?_) hcls
    obtain ⟨oL, _, _, hoL, _⟩ := id hn
    refine h _ ⟨I.ok, I.os, I.bare, ⟨fun b o e n hb hx => ?_, fun b o e n hb hx => ?_, I.base.free, fun b o e hx => ?_, I.base.tups, I.base.frzs, I.base.tbls⟩, ⟨_, hn', fun j y v' e1 e2 e3 => ?_⟩, fun y c e => ?_, I.free, I.freeC, fun p hp => ?_, tracked ⟨oL, hoL, I.free⟩ hs, by simpa using I.len⟩ ⟨_, hs, .inl rfl⟩
    · exact (hs.2 b (Nat.ne_of_lt (Nat.lt_of_lt_of_le (Heap.lt_size e) I.ok.above))).trans (I.base.keep b o e n hb hx)
    · obtain ⟨sl, e1⟩ := I.base.slot b o e n hb hx
      exact ⟨sl, (hs.2 b (Nat.ne_of_lt (Nat.lt_of_lt_of_le (Heap.lt_size e) I.ok.above))).trans e1⟩
    · obtain ⟨o', e1⟩ := I.base.there b o e hx
      exact ⟨o', (hs.2 b (Nat.ne_of_lt (Nat.lt_of_lt_of_le (Heap.lt_size e) I.ok.above))).trans e1⟩
    · by_cases hj : j = i
      · subst hj
        rw [hi] at e1; cases e1
        rw [List.getElem?_set_self hiσ] at e2
        cases e2
        exact ⟨u, r, .inl ⟨hk, by simp⟩⟩
      · rw [List.getElem?_set_ne (Ne.symm hj)] at e2
        obtain ⟨u', r', q⟩ := hl j y v' e1 e2 e3
        refine ⟨u', r', ?_⟩
        rcases q with ⟨k, e⟩ | ⟨k, c, e, z⟩
        · refine .inl ⟨k, ?_⟩
          have : y ≠ x := fun e => hj (nodup_ix hN e1 (e ▸ hi))
          simp [this, e]
        · exact .inr ⟨k, c, e, z.sameBut hs (cne y c e)⟩
    · obtain ⟨w', z⟩ := I.cell y c e
      exact ⟨w', z.sameBut hs (cne y c e)⟩
    · obtain ⟨e, n, ne, nf, d⟩ := I.pin p hp
      exact ⟨(hs.2 p.1 ne).trans e, n, ne, nf, d⟩
  · have hfn : X.fn x = true := by
      rcases hf with z | z
      · exact z
      · rw [z] at hk; cases hk
    obtain ⟨c, hc⟩ := I.ok.has x (.inl hk)
    obtain ⟨w', z⟩ := I.cell x c hc
    refine wpAny_storeName_cell I.ok.kind hk hc z (fun h' hc' hs => ?_)
    obtain ⟨oc, hoc, hocd⟩ := id z
    refine h { s with heap := h' } ⟨I.ok, I.os, I.bare, ⟨fun b o e n hb hx => ?_, fun b o e n hb hx => ?_, I.base.free, fun b o e hx => ?_, I.base.tups, I.base.frzs, I.base.tbls⟩, ⟨m, hn.sameBut hs (Ne.symm (cne x c hc)), fun j y v' e1 e2 e3 => ?_⟩, fun y c' e => ?_, I.free, I.freeC, fun p hp => ?_, tracked ⟨oc, hoc, I.freeC x c hc⟩ hs, by simpa using I.len⟩ ⟨c, hs, .inr hc⟩
    · exact (hs.2 b (Nat.ne_of_lt (Nat.lt_of_lt_of_le (Heap.lt_size e) (I.ok.cab x c hfn hc)))).trans (I.base.keep b o e n hb hx)
    · obtain ⟨sl, e1⟩ := I.base.slot b o e n hb hx
      exact ⟨sl, (hs.2 b (Nat.ne_of_lt (Nat.lt_of_lt_of_le (Heap.lt_size e) (I.ok.cab x c hfn hc)))).trans e1⟩
    · obtain ⟨o', e1⟩ := I.base.there b o e hx
      exact ⟨o', (hs.2 b (Nat.ne_of_lt (Nat.lt_of_lt_of_le (Heap.lt_size e) (I.ok.cab x c hfn hc)))).trans e1⟩
    · by_cases hj : j = i
      · subst hj
        rw [hi] at e1; cases e1
        rw [List.getElem?_set_self hiσ] at e2
        cases e2
        exact ⟨u, r, .inr ⟨.inl hk, c, hc, hc'⟩⟩
      · rw [List.getElem?_set_ne (Ne.symm hj)] at e2
        obtain ⟨u', r', q⟩ := hl j y v' e1 e2 e3
        refine ⟨u', r', ?_⟩
        rcases q with q | ⟨k, c', e, z'⟩
        · exact .inl q
        · refine .inr ⟨k, c', e, z'.sameBut hs ?_⟩
          rintro rfl
          exact hj (nodup_ix hN e1 (I.ok.inj _ _ _ e hc ▸ hi))
    · by_cases hcc : c' = c
      · subst hcc; exact ⟨_, hc'⟩
      · obtain ⟨w2, z2⟩ := I.cell y c' e
        exact ⟨w2, z2.sameBut hs hcc⟩
    · obtain ⟨e, n, ne, nf, d⟩ := I.pin p hp
      refine ⟨(hs.2 p.1 ?_).trans e, n, ne, nf, d⟩
      intro q
      rw [q, hoc] at e
      have q' : oc = p.2 := Option.some.inj e
      exact d w' (by rw [← q']; exact hocd)
theorem store_ok {M : Model} {A : Around} {E : Value → Shared → Prop} {i : Nat} {x : Str} {v : V} {u : Value} {Q : Unit → Shared → Prop} (I : Inv X pins σ H s) (hN : X.N.Nodup) (hi : X.N[i]? = some x) (hx : Loc X.env.scope x) (r : RelV v u)
    (h : ∀ s', Inv X pins (σ.set i (some v)) H s' → Q () s') (hf : X.fn x = true ∨ X.env.scope.names.lookup x = some .local := by first | exact .inl rfl | exact .inr rfl | assumption) : wpAny M A (storeName X.env x u) Q E s :=
  store_ok2 I hN hi hx r (fun s' I' _ => h s' I') hf
theorem Inv.call' {s' : Shared} {ch : List Addr} (I : Inv X pins σ H s) (ho : s'.os = s.os) (u : Un (frs X.stack) ch H H' s.heap s'.heap) (hok : HOk X.prog X.w H' s'.heap) (hg : AllBare s'.gens)
    (hch : ∀ b ∈ ch, (b ∈ X.ex ∨ X.s₀.heap.objs.size ≤ b) ∧ b ≠ X.env.locals ∧ (∀ x c, X.env.cells.lookup x = some c → c ≠ b) ∧ ∀ p ∈ X.pn ++ pins, p.1 ≠ b) : Inv X pins σ H' s' := by
  obtain ⟨h', g', d', t', o'⟩ := s'
  have e : o' = s.os := ho
  subst e
  exact I.call (g' := g') (t' := t') (d' := d') u hok hg hch
end
abbrev XK := Value → Option Addr → Hp → Prop
abbrev St := List (Option V)
abbrev VK := V → Hp → Prop
abbrev TE := St → Hp → VK → Prop
abbrev TT := St → Hp → (Bool → Hp → Prop) → Prop
abbrev TA := St → Hp → (List V → Hp → Prop) → Prop
structure Ends where
  nx : St → Hp → Prop
  rt : VK
  bk : St → Hp → Prop := fun _ _ => False
  ct : St → Hp → Prop := fun _ _ => False
abbrev TS := Ends → St → Hp → Prop
def EP (X : Cx) (pins : List (Addr × Obj)) (σ : St) (Q : VK) (u : Value) (s' : Shared) : Prop := ∃ v H', Inv X pins σ H' s' ∧ RelV v u ∧ Q v H'
def TP (X : Cx) (pins : List (Addr × Obj)) (σ : St) (Q : Bool → Hp → Prop) (b : Bool) (s' : Shared) : Prop := ∃ H', Inv X pins σ H' s' ∧ Q b H'
def AP (X : Cx) (pins : List (Addr × Obj)) (σ : St) (Q : List V → Hp → Prop) (us : List Value) (s' : Shared) : Prop := ∃ vs H', Inv X pins σ H' s' ∧ Vals vs us ∧ Q vs H'
def SP (X : Cx) (pins : List (Addr × Obj)) (D : Ends) (f : Flow) (s' : Shared) : Prop :=
  match f with
  | .next => ∃ σ' H', Inv X pins σ' H' s' ∧ D.nx σ' H'
  | .brk => ∃ σ' H', Inv X pins σ' H' s' ∧ D.bk σ' H'
  | .cont => ∃ σ' H', Inv X pins σ' H' s' ∧ D.ct σ' H'
  | .ret u => ∃ v σ' H', Inv X pins σ' H' s' ∧ RelV v u ∧ D.rt v H'
def PE (X : Cx) (e : Expr) (t : TE) : Prop :=
  ∀ (pins : List (Addr × Obj)) (s : Shared) (σ : St) (H : Hp) (Q : VK), Inv X pins σ H s → t σ H Q → wpAny (model X.prog X.w) X.A (eval e X.env) (EP X pins σ Q) X.xe s
def PT (X : Cx) (e : Expr) (t : TT) : Prop :=
  ∀ (pins : List (Addr × Obj)) (s : Shared) (σ : St) (H : Hp) (Q : Bool → Hp → Prop), Inv X pins σ H s → t σ H Q → wpAny (model X.prog X.w) X.A (isTrue e X.env (eval e X.env)) (TP X pins σ Q) X.xe s
def PW (X : Cx) (e : Expr) (t : TT) : Prop :=
  ∀ (whole : Sem Value) (pins : List (Addr × Obj)) (s : Shared) (σ : St) (H : Hp) (Q : Bool → Hp → Prop), Inv X pins σ H s → t σ H Q → wpAny (model X.prog X.w) X.A (isTrue e X.env whole) (TP X pins σ Q) X.xe s
theorem PW.pt {X : Cx} {e : Expr} {t : TT} (h : PW X e t) : PT X e t := h _
def PA (X : Cx) (es : List Expr) (t : TA) : Prop :=
  ∀ (pos : Pos) (pins : List (Addr × Obj)) (s : Shared) (σ : St) (H : Hp) (Q : List V → Hp → Prop), Inv X pins σ H s → t σ H Q → wpAny (model X.prog X.w) X.A (spliced (backTo pos (starEach es X.env))) (AP X pins σ Q) X.xe s
def PS (X : Cx) (st : Stmt) (t : TS) : Prop :=
  ∀ (pins : List (Addr × Obj)) (s : Shared) (σ : St) (H : Hp) (D : Ends), Inv X pins σ H s → t D σ H → wpAny (model X.prog X.w) X.A (exec st X.env) (SP X pins D) X.xe s
def PSs (X : Cx) (st : List Stmt) (t : TS) : Prop :=
  ∀ (pins : List (Addr × Obj)) (s : Shared) (σ : St) (H : Hp) (D : Ends), Inv X pins σ H s → t D σ H → wpAny (model X.prog X.w) X.A (execs st X.env) (SP X pins D) X.xe s
theorem thn {α : Type} {t : Sem α} {Q Q' : α → Shared → Prop} {M : Model} {A : Around} {E : Value → Shared → Prop} {s : Shared} (h : wpAny M A t Q E s) (hQ : ∀ a s, Q a s → Q' a s) : wpAny M A t Q' E s := wpAny_mono h hQ fun _ _ x => x
end L2
namespace L2
open PySem PySem.Spec PyProof.Rows
section
variable {X : Cx}
def tVar (i : Nat) : TE := fun σ H Q => ∃ v, σ[i]? = some (some v) ∧ Q v H
def tC (v : V) : TE := fun _ H Q => Q v H
theorem pe_var {i : Nat} {x : Str} {pos : Pos} (hN : X.N[i]? = some x) (hv : Vis X.env.scope x) (hd : (x == ("__debug__" : Str)) = false := by decide) (hcd : (x == ("__classdict__" : Str)) = false := by decide) : PE X (.Name x pos) (tVar i) := by
  intro pins s σ H Q I h
  obtain ⟨v, e, h⟩ := h
  obtain ⟨m, hn, hl⟩ := I.loc
  obtain ⟨u, r, l⟩ := hl i x v hN e hv
  have fin : EP X pins σ Q u s := ⟨v, H, I, r, h⟩
  rcases l with ⟨hk, hm⟩ | ⟨hk, c, hc, hcell⟩
  · exact wpAny_Name (wpAny_loadName_local I.ok.kind hk hn hm fin) hd
  · rcases hk with hk | hk
    · exact wpAny_Name (wpAny_loadName_cell I.ok.kind hk hc hcell fin) hd
    · exact wpAny_Name (wpAny_loadName_free I.ok.kind hk hc hcell fin hcd) hd
theorem pe_int {i j pos} : PE X (.Constant (.int i) j pos) (tC (.int i)) := fun _ _ _ H _ I h => wpAny_Constant_int ⟨.int i, H, I.tok _, ⟨_, rfl⟩, h⟩
theorem pe_bl {b j pos} : PE X (.Constant (.bool b) j pos) (tC (.bl b)) := fun _ _ _ H _ I h => Constant_bool ⟨.bl b, H, I, rfl, h⟩
theorem pe_non {j pos} : PE X (.Constant .none j pos) (tC .non) := fun _ _ _ H _ I h => Constant_none ⟨.non, H, I, rfl, h⟩
theorem pe_str {x j pos} : PE X (.Constant (.str x) j pos) (tC (.str x)) := fun _ _ _ H _ I h => Calls.Constant_str ⟨.str x, H, I.tok _, ⟨_, rfl⟩, h⟩
def Gl (X : Cx) (x : Str) : Prop := X.env.kindOf x = some .globalImplicit
theorem ld_glob {E : Value → Shared → Prop} {pins : List (Addr × Obj)} {s : Shared} {σ : St} {H : Hp} {x : Str} {u : Value} {pos : Pos} {Q : Value → Shared → Prop} (I : Inv X pins σ H s) (hg : Gl X x) (hm : X.mg x = some u) (h : Q u s)
    (hd : (x == ("__debug__" : Str)) = false := by decide) : wpAny (model X.prog X.w) X.A (eval (.Name x pos) X.env) Q E s :=
  Calls.Name_function_global I.ok.kind hg (Calls.loadGlobal_global (by rw [I.ok.glob]; exact I.mod.glob.keeps I.bk) hm h) hd
theorem ld_blt {E : Value → Shared → Prop} {pins : List (Addr × Obj)} {s : Shared} {σ : St} {H : Hp} {x : Str} {u : Value} {pos : Pos} {Q : Value → Shared → Prop} (I : Inv X pins σ H s) (hg : Gl X x) (hm : X.mg x = none) (hv : bootBuiltins x = some u) (h : Q u s)
    (hn : x ≠ "__name__" := by decide) (hd : (x == ("__debug__" : Str)) = false := by decide) : wpAny (model X.prog X.w) X.A (eval (.Name x pos) X.env) Q E s := by
  obtain ⟨mb, h1, h2⟩ := I.mod.blt
  exact Calls.Name_function_global I.ok.kind hg (Calls.loadGlobal_builtin (by rw [I.ok.glob]; exact I.mod.glob.keeps I.bk) hm (by rw [I.ok.blt]; exact h1.keeps I.bk) ((h2 x hn).trans hv) h) hd
theorem pe_glob {x : Str} {v : V} {u : Value} {pos : Pos} (hg : Gl X x) (hm : X.mg x = some u) (r : RelV v u) (hd : (x == ("__debug__" : Str)) = false := by decide) : PE X (.Name x pos) (tC v) :=
  fun _ _ _ H _ I h => ld_glob I hg hm ⟨v, H, I, r, h⟩ hd
variable {a b : Expr} {ta tb : TE} {pos : Pos}
def PC (X : Cx) (op : CmpOp) (a b : Expr) (t : TE) : Prop :=
  ∀ (pins : List (Addr × Obj)) (s : Shared) (σ : St) (H : Hp) (Q : VK), Inv X pins σ H s → t σ H Q →
    wpAny (model X.prog X.w) X.A (eval a X.env) (fun v s₁ => wpAny (model X.prog X.w) X.A (eval b X.env) (fun u s₂ => wpAny (model X.prog X.w) X.A (compareOp op v u) (EP X pins σ Q) X.xe s₂) X.xe s₁) X.xe s
def tB (t : TE) : TT := fun σ H Q => t σ H fun x H1 => ∃ c, x = .bl c ∧ Q c H1
theorem pt_cmp {op : CmpOp} {t : TE} (h : PC X op a b t) (h1 : behindInMarks op b = false := by first | exact nobehind _ (by decide) (by decide) | rfl) : PT X (.Compare a [op] [b] pos) (tB t) := by
  intro pins s σ H Q I hw
  refine wpAny_isTrue_Compare1 (thn (h pins s σ H _ I hw) fun v s1 h1 => thn h1 fun u s2 h2 => thn h2 fun c s3 ⟨x, H1, I1, r1, q1⟩ => ?_) h1
  obtain ⟨d, rfl, q⟩ := q1
  cases r1
  exact wpAny_truthy_bool ⟨H1, I1, q⟩
theorem pt_val {e : Expr} {t : TE} (h : PE X e t) (he : ∀ whole, isTrue e X.env whole = (do let v ← whole; standAt e.pos; holding [v] (truthy v)) := by intro _; rfl) : PT X e (tB t) := by
  intro pins s σ H Q I hw
  refine isTrue_plain (thn (h pins s σ H _ I hw) fun v s1 ⟨x, H1, I1, r1, q1⟩ => ?_) (he _)
  obtain ⟨d, rfl, q⟩ := q1
  cases r1
  exact wpAny_truthy_bool ⟨H1, I1, q⟩
variable {tA tB' : TT} {rest : List Expr}
def tAnd (t u : TT) : TT := fun σ H Q => t σ H fun c H1 => if c = true then u σ H1 Q else Q false H1
def tOr (t u : TT) : TT := fun σ H Q => t σ H fun c H1 => if c = true then Q true H1 else u σ H1 Q
def tNot (t : TT) : TT := fun σ H Q => t σ H fun c H1 => Q (!c) H1
theorem pw_and1 (ha : PT X a tA) : PW X (.BoolOp .And [a] pos) tA := by
  intro wh pins s σ H Q I h
  refine isTrue_and (thn (ha pins s σ H Q I h) fun c s1 e => ?_)
  cases c with
  | true => exact isTrue_and_nil e
  | false => exact e
theorem pw_or1 (ha : PT X a tA) : PW X (.BoolOp .Or [a] pos) tA := by
  intro wh pins s σ H Q I h
  refine isTrue_or (thn (ha pins s σ H Q I h) fun c s1 e => ?_)
  cases c with
  | false => exact isTrue_or_nil e
  | true => exact e
theorem pw_and (ha : PT X a tA) (hb : PW X (.BoolOp .And (b :: rest) pos) tB') : PW X (.BoolOp .And (a :: b :: rest) pos) (tAnd tA tB') := by
  intro wh pins s σ H Q I h
  refine isTrue_and (thn (ha pins s σ H _ I h) fun c s1 ⟨H1, I1, q1⟩ => ?_)
  cases c with
  | true => exact hb wh pins s1 σ H1 Q I1 q1
  | false => exact ⟨H1, I1, q1⟩
theorem pw_or (ha : PT X a tA) (hb : PW X (.BoolOp .Or (b :: rest) pos) tB') : PW X (.BoolOp .Or (a :: b :: rest) pos) (tOr tA tB') := by
  intro wh pins s σ H Q I h
  refine isTrue_or (thn (ha pins s σ H _ I h) fun c s1 ⟨H1, I1, q1⟩ => ?_)
  cases c with
  | true => exact ⟨H1, I1, q1⟩
  | false => exact hb wh pins s1 σ H1 Q I1 q1
theorem pt_not (ha : PT X a tA) : PT X (.UnaryOp .Not a pos) (tNot tA) := by
  intro pins s σ H Q I h
  exact isTrue_not (ha pins s σ H (fun c H1 => Q (!c) H1) I h)
def tAndV (ta tb : TE) : TE := fun σ H Q => ta σ H fun x H1 => ∃ c, x = .bl c ∧ if c = true then tb σ H1 Q else Q (.bl false) H1
theorem pe_one {op} {t : TE} (h : PE X a t) : PE X (.BoolOp op [a] pos) t := fun pins s σ H Q I hw => BoolOp_one (h pins s σ H Q I hw)
theorem pe_and (ha : PE X a ta) (hb : PE X (.BoolOp .And (b :: rest) pos) tb) : PE X (.BoolOp .And (a :: b :: rest) pos) (tAndV ta tb) := by
  intro pins s σ H Q I h
  refine BoolOp_and (thn (ha pins s σ H _ I h) fun v s1 ⟨x, H1, I1, r1, q1⟩ => ?_)
  obtain ⟨c, rfl, q1⟩ := q1
  cases r1
  refine wpAny_truthy_bool ?_
  cases c with
  | true => exact hb pins s1 σ H1 Q I1 q1
  | false => exact ⟨.bl false, H1, I1, rfl, q1⟩
def tIf (t : TT) (ta tb : TE) : TE := fun σ H Q => t σ H fun c H1 => if c = true then ta σ H1 Q else tb σ H1 Q
theorem pe_ifExp {c : Expr} (hc : PT X c tA) (ha : PE X a ta) (hb : PE X b tb) : PE X (.IfExp c a b pos) (tIf tA ta tb) := by
  intro pins s σ H Q I h
  refine wpAny_IfExp (thn (hc pins s σ H _ I h) fun d s1 ⟨H1, I1, q1⟩ => ?_)
  cases d with
  | true => exact ha pins s1 σ H1 Q I1 q1
  | false => exact hb pins s1 σ H1 Q I1 q1
end
end L2
namespace L2
open PySem PySem.Spec PyProof.Rows
def SqL (K : PySem.W.Frag) (H : Hp) (a : Addr) (xs : List V) : Prop :=
  Rd H a (.lst xs) ∨
    ∃ (o : Obj) (its : Array Value) (n : Nat), K.lookup a = some o ∧ o.cls = .type "list" ∧ o.dict = none ∧ o.data = .seq its n ∧ its.size ≤ sizeLine ∧ Vals xs its.toList
def SqT (K : PySem.W.Frag) (H : Hp) (a : Addr) (xs : List V) : Prop :=
  Rd H a (.tup xs) ∨
    ∃ (o : Obj) (its : Array Value) (n : Nat), K.lookup a = some o ∧ o.cls = .type "tuple" ∧ o.data = .seq its n ∧ its.size ≤ sizeLine ∧ Vals xs its.toList
def absV : Value → Option V
  | .none => some .non
  | .bool b => some (.bl b)
  | .int i _ => some (.int i)
  | .str x _ => some (.str x)
  | .bytes b _ => some (.byt b)
  | .float b _ => some (.flt b)
  | .ref a => some (.ref a)
  | .type n => some (.ty n)
  | _ => none
theorem RelV.abs {x : V} {u : Value} (r : RelV x u) : absV u = some x := by
  cases x with
  | non => cases r; rfl
  | bl _ => cases r; rfl
  | int _ => obtain ⟨t, rfl⟩ := r; rfl
  | str _ => obtain ⟨t, rfl⟩ := r; rfl
  | byt _ => obtain ⟨t, rfl⟩ := r; rfl
  | flt _ => obtain ⟨t, rfl⟩ := r; rfl
  | ref _ => cases r; rfl
  | ty _ => cases r; rfl
theorem RelV.inj {x y : V} {u : Value} (r : RelV x u) (q : RelV y u) : x = y := Option.some.inj (r.abs.symm.trans q.abs)
theorem Vals.inj : ∀ {xs ys : List V} {us : List Value}, Vals xs us → Vals ys us → xs = ys
  | _, _, _, .nil, .nil => rfl
  | _, _, _, .cons r t, .cons r' t' => by rw [r.inj r', Vals.inj t t']
section
variable {X : Cx} {pins : List (Addr × Obj)} {σ : St} {H : Hp} {s : Shared} {a : Addr} {xs ys : List V}
theorem SqL.of {K : PySem.W.Frag} (h : H a = some (.lst xs)) : SqL K H a xs := .inl (.inl h)
theorem SqT.of {K : PySem.W.Frag} (h : H a = some (.tup xs)) : SqT K H a xs := .inl (.inl h)
theorem Inv.list (I : Inv X pins σ H s) (h : SqL X.K H a xs) : ∃ its : List Value, Vals xs its ∧ PlainL s.heap a its.toArray ∧ xs.length ≤ sizeLine := by
  rcases h with h | ⟨o, its, n, hk, hc, hd, hs, hz, r⟩
  · obtain ⟨z, its, n, r, e⟩ := h.ok I.hok
    exact ⟨its, r, ⟨_, n, e, rfl, rfl, rfl⟩, z⟩
  · refine ⟨its.toList, r, ⟨o, n, I.kIn a o hk, hc, hd, by simpa using hs⟩, ?_⟩
    have e := r.length
    simp only [Array.length_toList] at e
    omega
theorem Inv.tuple (I : Inv X pins σ H s) (h : SqT X.K H a xs) : ∃ its : List Value, Vals xs its ∧ IsTup s.heap a its.toArray ∧ xs.length ≤ sizeLine := by
  rcases h with h | ⟨o, its, n, hk, hc, hs, hz, r⟩
  · obtain ⟨z, its, r, p⟩ := h.ok I.hok
    exact ⟨its, r, p, z⟩
  · refine ⟨its.toList, r, ⟨o, I.kIn a o hk, hc, n, by simpa using hs⟩, ?_⟩
    have e := r.length
    simp only [Array.length_toList] at e
    omega
theorem Inv.list_inj (I : Inv X pins σ H s) (h : SqL X.K H a xs) (h' : SqL X.K H a ys) : xs = ys := by
  obtain ⟨its, r, ⟨o, n, e, _, _, d⟩, _⟩ := I.list h
  obtain ⟨its', r', ⟨o', n', e', _, _, d'⟩, _⟩ := I.list h'
  rw [e] at e'; cases e'
  rw [d] at d'
  injection d' with d1 _
  have : its = its' := by simpa using congrArg Array.toList d1
  subst this
  exact r.inj r'
end
abbrev Cx.wish (X : Cx) (E : Value → Shared → Prop) : Cx := { X with xe := E }
abbrev Cx.nox (X : Cx) : Cx := X.wish fun _ _ => False
theorem Cx.Ok.wish {X : Cx} (ok : X.Ok) (E : Value → Shared → Prop) : (X.wish E).Ok :=
  ⟨ok.mod, ok.kind, ok.glob, ok.blt, ok.above, ok.inj, ok.has, ok.cab, ok.hd, ok.frames, ok.stk, ok.exf, ok.bs, ok.bsz, ok.noex, ok.exfs, ok.funs, ok.frf⟩
theorem Cx.Ok.unwish {X : Cx} {E : Value → Shared → Prop} (ok : (X.wish E).Ok) : X.Ok :=
  ⟨ok.mod, ok.kind, ok.glob, ok.blt, ok.above, ok.inj, ok.has, ok.cab, ok.hd, ok.frames, ok.stk, ok.exf, ok.bs, ok.bsz, ok.noex, ok.exfs, ok.funs, ok.frf⟩
section
variable {X : Cx} {pins : List (Addr × Obj)} {σ : St} {H : Hp} {s : Shared} {E : Value → Shared → Prop}
theorem Inv.wish (I : Inv X pins σ H s) (E : Value → Shared → Prop) : Inv (X.wish E) pins σ H s := ⟨I.ok.wish E, I.os, I.bare, I.base, I.loc, I.cell, I.free, I.freeC, I.pin, I.hok, I.len⟩
theorem Inv.unwish (I : Inv (X.wish E) pins σ H s) : Inv X pins σ H s := ⟨I.ok.unwish, I.os, I.bare, I.base, I.loc, I.cell, I.free, I.freeC, I.pin, I.hok, I.len⟩
theorem SP.unwish {D : Ends} {f : Flow} {s' : Shared} (h : SP (X.wish E) pins D f s') : SP X pins D f s' := by
  cases f with
  | next => obtain ⟨σ', H', I, q⟩ := h; exact ⟨σ', H', I.unwish, q⟩
  | brk => obtain ⟨σ', H', I, q⟩ := h; exact ⟨σ', H', I.unwish, q⟩
  | cont => obtain ⟨σ', H', I, q⟩ := h; exact ⟨σ', H', I.unwish, q⟩
  | ret u => obtain ⟨v, σ', H', I, r, q⟩ := h; exact ⟨v, σ', H', I.unwish, r, q⟩
theorem PSs.nox {st : List Stmt} {t : TS} (h : PSs X.nox st t) : PSs X st t := fun pins s σ H D I hw =>
  wpAny_mono (h pins s σ H D (I.wish _) hw) (fun _ _ q => q.unwish) fun _ _ z => False.elim z
end
section
variable {X : Cx} {st : Stmt} {rest : List Stmt} {t u : TS} {e : Expr} {te : TE} {pos : Pos}
def tNext : TS := fun D σ H => D.nx σ H
def tSeq (t u : TS) : TS := fun D σ H => t { D with nx := u D } σ H
theorem pss_nil : PSs X [] tNext := fun _ _ σ H _ I h => wpAny_execs_nil ⟨σ, H, I, h⟩
theorem pss_cons (h1 : PS X st t) (h2 : PSs X rest u) : PSs X (st :: rest) (tSeq t u) := by
  intro pins s σ H D I h
  refine wpAny_execs_cons (thn (h1 pins s σ H { D with nx := u D } I h) fun f s1 q => ?_)
  cases f with
  | next =>
    obtain ⟨σ', H', I', q⟩ := q
    exact h2 pins s1 σ' H' D I' q
  | ret v => exact q
  | brk => exact q
  | cont => exact q
theorem pss_one (h1 : PS X st t) : PSs X [st] t := by
  intro pins s σ H D I h
  refine wpAny_execs_cons (thn (h1 pins s σ H D I h) fun f s1 q => ?_)
  cases f with
  | next => exact wpAny_execs_nil q
  | ret v => exact q
  | brk => exact q
  | cont => exact q
theorem Inv.quiet {pins : List (Addr × Obj)} {σ : St} {H : Hp} {s : Shared} (I : Inv X pins σ H s) : interactive X.env = false := by simp [interactive, I.ok.kind]
def tDrop (te : TE) : TS := fun D σ H => te σ H fun _ H1 => D.nx σ H1
theorem ps_expr (he : PE X e te) (hs : swapsWith e none pos.line X.env = pure false := by rfl) : PS X (.Expr e pos) (tDrop te) := by
  intro pins s σ H D I h
  exact wpAny_Expr_any (thn (he pins s σ H _ I h) fun v s1 ⟨x, H1, I1, r1, q1⟩ => ⟨σ, H1, I1, q1⟩) I.quiet hs
def tRet (te : TE) : TS := fun D σ H => te σ H D.rt
theorem ps_ret (he : PE X e te) : PS X (.Return (some e) pos) (tRet te) := by
  intro pins s σ H D I h
  exact wpAny_Return_some (thn (he pins s σ H _ I h) fun v s1 ⟨x, H1, I1, r1, q1⟩ => ⟨x, σ, H1, I1, r1, q1⟩)
def tIfS (c : TT) (t u : TS) : TS := fun D σ H => c σ H fun b H1 => if b = true then t D σ H1 else u D σ H1
theorem ps_if {c : Expr} {a b : List Stmt} {tc : TT} (hc : PT X c tc) (ha : PSs X a t) (hb : PSs X b u) : PS X (.If c a b pos) (tIfS tc t u) := by
  intro pins s σ H D I h
  refine wpAny_If (thn (hc pins s σ H _ I h) fun d s1 ⟨H1, I1, q1⟩ => ?_)
  cases d with
  | true => exact ha pins s1 σ H1 D I1 q1
  | false => exact hb pins s1 σ H1 D I1 q1
end
abbrev TG := V → St → Hp → (St → Hp → Prop) → Prop
abbrev TGs := List V → St → Hp → (St → Hp → Prop) → Prop
def PG (X : Cx) (target : Expr) (t : TG) : Prop :=
  ∀ (pins : List (Addr × Obj)) (s : Shared) (σ : St) (H : Hp) (v : V) (u : Value) (Q : St → Hp → Prop), Inv X pins σ H s → RelV v u → t v σ H Q →
    wpAny (model X.prog X.w) X.A (assign target X.env u) (fun _ s' => ∃ σ' H', Inv X pins σ' H' s' ∧ Q σ' H') X.xe s
def PGs (X : Cx) (ts : List Expr) (t : TGs) : Prop :=
  ∀ (pins : List (Addr × Obj)) (s : Shared) (σ : St) (H : Hp) (vs : List V) (us : List Value) (Q : St → Hp → Prop), Inv X pins σ H s → Vals vs us → t vs σ H Q →
    wpAny (model X.prog X.w) X.A (assignInOrder ((assignEach ts X.env).map (·.2)) us) (fun _ s' => ∃ σ' H', Inv X pins σ' H' s' ∧ Q σ' H') X.xe s
abbrev TSet := V → V → V → Hp → (Hp → Prop) → Prop
def PSet (X : Cx) (t : TSet) : Prop :=
  ∀ (pins : List (Addr × Obj)) (s : Shared) (σ : St) (H : Hp) (o i v : V) (ov iv u : Value) (Q : Hp → Prop), Inv X pins σ H s → RelV o ov → RelV i iv → RelV v u → t o i v H Q →
    wpAny (model X.prog X.w) X.A (setItem ov iv u) (fun _ s' => ∃ H', Inv X pins σ H' s' ∧ Q H') X.xe s
section
variable {X : Cx} {pos : Pos}
def gName (i : Nat) : TG := fun v σ H Q => Q (σ.set i (some v)) H
theorem pg_name {i : Nat} {x : Str} (hN : X.N.Nodup) (hi : X.N[i]? = some x) (hx : Loc X.env.scope x) (hf : X.fn x = true ∨ X.env.scope.names.lookup x = some .local := by first | exact .inl rfl | exact .inr rfl | assumption) : PG X (.Name x pos) (gName i) := by
  intro pins s σ H v u Q I r h
  exact wpAny_assign_Name (store_ok I hN hi hx r (fun s' I' => ⟨_, H, I', h⟩) hf)
def gNil : TGs := fun vs σ H Q => vs = [] ∧ Q σ H
def gCons (t : TG) (u : TGs) : TGs := fun vs σ H Q => ∃ v r, vs = v :: r ∧ t v σ H fun σ' H' => u r σ' H' Q
theorem pgs_nil : PGs X [] gNil := by
  intro pins s σ H vs us Q I r h
  obtain ⟨e, h⟩ := h
  subst e
  cases r
  exact assignInOrder_nil ⟨σ, H, I, h⟩
theorem pgs_cons {e : Expr} {es : List Expr} {t : TG} {u : TGs} (h1 : PG X e t) (h2 : PGs X es u)
    (hs : (assignEach (e :: es) X.env).map (·.2) = assign e X.env :: (assignEach es X.env).map (·.2) := by rfl) : PGs X (e :: es) (gCons t u) := by
  intro pins s σ H vs us Q I r h
  obtain ⟨v, vr, e1, h⟩ := h
  subst e1
  cases r with
  | cons r rr =>
    rw [hs]
    refine assignInOrder_cons (thn (h1 pins s σ H _ _ _ I r h) fun _ s1 ⟨σ1, H1, I1, q1⟩ => ?_)
    exact h2 pins s1 σ1 H1 _ _ Q I1 rr q1
def gTup (K : PySem.W.Frag) (n : Nat) (t : TGs) : TG := fun v σ H Q => ∃ a xs, v = .ref a ∧ SqT K H a xs ∧ xs.length = n ∧ t xs σ H Q
theorem pg_tup {es : List Expr} {k : Nat} {t : TGs} {n : Nat} (hc : X.calm = true) (h : PGs X es t)
    (hn : (assignEach es X.env).length = n := by rfl) (hst : (assignEach es X.env).findIdx? (·.1) = none := by rfl) : PG X (.Tuple es k pos) (gTup X.K n t) := by
  intro pins s σ H v u Q I r hw
  obtain ⟨a, xs, e1, hq, hl, hw⟩ := hw
  subst e1
  cases r
  obtain ⟨its, rv, ht, hz⟩ := I.tuple hq
  refine assign_Tuple_tuple (I.ok.hd hc) ht (by simp [hn, ← hl, rv.length]) hst fun h' hx => ?_
  have I1 : Inv X pins σ H { s with heap := h' } := I.kept (t' := s.toks) fun b o e => hx b o (Nat.ne_of_lt (Heap.lt_size e)) e
  exact h pins _ σ H xs _ Q I1 (by simpa using rv) hw
def gSub (to ti : TE) (t : TSet) : TG := fun v σ H Q => to σ H fun o H1 => ti σ H1 fun i H2 => t o i v H2 fun H3 => Q σ H3
theorem pg_sub {o i : Expr} {to ti : TE} {t : TSet} (ho : PE X o to) (hi : PE X i ti) (hs : PSet X t)
    (ha : ∀ v, assign (.Subscript o i pos) X.env v = (do
      let ov ← holding [v] (eval o X.env)
      let iv ← holding [v, ov] (eval i X.env)
      standAt pos
      holding [v, ov, iv] (setItem ov iv v)
      release [v, ov, iv] []) := by intro _; rfl) : PG X (.Subscript o i pos) (gSub to ti t) := by
  intro pins s σ H v u Q I r h
  rw [ha]
  refine wpAny_bind (wpAny_holding (thn (ho pins s σ H _ I h) fun ov s1 ⟨x, H1, I1, r1, q1⟩ => ?_))
  refine wpAny_bind (wpAny_holding (thn (hi pins s1 σ H1 _ I1 q1) fun iv s2 ⟨y, H2, I2, r2, q2⟩ => ?_))
  refine wpAny_bind (wpAny_standAt (wpAny_bind (wpAny_holding (thn (hs pins s2 σ H2 x y v ov iv u _ I2 r1 r2 r q2) fun _ s3 ⟨H3, I3, q3⟩ => ?_))))
  exact wpAny_release ⟨σ, H3, I3, q3⟩
def tAsg (te : TE) (g : TG) : TS := fun D σ H => te σ H fun x H1 => g x σ H1 D.nx
theorem ps_asg {tg e : Expr} {te : TE} {g : TG} (he : PE X e te) (hg : PG X tg g) (hs : swapsWithSole [tg] e pos.line X.env = pure false := by rfl) (hw : swappedStores [tg] e X.env = pure none := by rfl)
    (h1 : (assignEach [tg] X.env).map (·.2) = [assign tg X.env] := by rfl) : PS X (.Assign [tg] e pos) (tAsg te g) := by
  intro pins s σ H D I h
  refine wpAny_Assign_stores (thn (he pins s σ H _ I h) fun v s1 ⟨x, H1, I1, r1, q1⟩ => ?_) hs hw
  rw [h1]
  exact thn (hg pins s1 σ H1 x v _ I1 r1 q1) fun _ s2 q => q
theorem ps_set {i : Nat} {x : Str} {e : Expr} {te : TE} {pos' : Pos} (hN : X.N.Nodup) (hi : X.N[i]? = some x) (hx : Loc X.env.scope x) (he : PE X e te) (hs : swapsWith e (some (.Name x pos')) pos.line X.env = pure false := by rfl) (hf : X.fn x = true ∨ X.env.scope.names.lookup x = some .local := by first | exact .inl rfl | exact .inr rfl | assumption) :
    PS X (.Assign [.Name x pos'] e pos) (tAsg te (gName i)) := by
  intro pins s σ H D I h
  refine wpAny_Assign_Name (thn (he pins s σ H _ I h) fun v s1 ⟨y, H1, I1, r1, q1⟩ => ?_) hs
  exact store_ok I1 hN hi hx r1 (fun s2 I2 => ⟨_, H1, I2, q1⟩) hf
end
section
variable {X : Cx} {pos : Pos}
def tWhile (c : TT) (tb : TS) : TS := fun D σ H => ∃ W : Nat → St → Hp → Prop, (∃ m, W m σ H) ∧ ∀ m σ H, W m σ H →
  c σ H fun b H1 => if b = true then ∃ N : St → Hp → Prop, (∀ σ' H', N σ' H' → ∃ m', m' < m ∧ W m' σ' H') ∧ tb { D with nx := N, ct := N, bk := D.nx } σ H1 else D.nx σ H1
theorem ps_while {c : Expr} {body : List Stmt} {tc : TT} {tb : TS} (hp : PassesOwn (model X.prog X.w) X.A X.env X.xe) (hc : PT X c tc) (hb : PSs X body tb) : PS X (.While c body [] pos) (tWhile tc tb) := by
  intro pins s σ H D I h
  obtain ⟨W, ⟨m0, w0⟩, turn⟩ := h
  refine wpAny_While (codeAny_whileLoop (fun n s' => ∃ σ' H', Inv X pins σ' H' s' ∧ W n σ' H') ?_ m0 ⟨σ, H, I, w0⟩)
  rintro n s1 ⟨σ1, H1, I1, w1⟩
  refine wpAny_passesOwn hp (thn (hc pins s1 σ1 H1 _ I1 (turn n σ1 H1 w1)) fun b s2 ⟨H2, I2, q2⟩ => ?_)
  cases b with
  | true =>
    obtain ⟨N, hN, q2⟩ := q2
    rw [if_pos rfl]
    refine wpAny_passesOwn hp (thn (hb pins s2 σ1 H2 _ I2 q2) fun f s3 q3 => ?_)
    cases f with
    | next =>
      obtain ⟨σ3, H3, I3, n3⟩ := q3
      obtain ⟨m', hm, w3⟩ := hN σ3 H3 n3
      exact ⟨m', hm, σ3, H3, I3, w3⟩
    | cont =>
      obtain ⟨σ3, H3, I3, n3⟩ := q3
      obtain ⟨m', hm, w3⟩ := hN σ3 H3 n3
      exact ⟨m', hm, σ3, H3, I3, w3⟩
    | brk => exact q3
    | ret v => exact q3
  | false =>
    rw [if_neg Bool.false_ne_true]
    exact wpAny_execs_nil ⟨σ1, H2, I2, q2⟩
end
structure It where
  go : Nat → Hp → Prop
  yld : Nat → Hp → V → Hp → Prop
  stop : Nat → Hp → Prop
def FpOk (X : Cx) (pins : List (Addr × Obj)) (H : Hp) (b : Addr) : Prop :=
  H b = none ∧ b ≠ X.env.locals ∧ b ∉ X.fs ∧ (b ∈ X.ex ∨ X.s₀.heap.objs.size ≤ b) ∧ (∀ x c, X.env.cells.lookup x = some c → c ≠ b) ∧ ∀ p ∈ X.pn ++ pins, p.1 ≠ b
theorem Inv.fpOk {X : Cx} {pins : List (Addr × Obj)} {σ : St} {H H' : Hp} {s : Shared} {b : Addr} (I : Inv X pins σ H s) (hb : s.heap.objs.size ≤ b) (hn : H' b = none) : FpOk X pins H' b := by
  refine ⟨hn, Nat.ne_of_gt (Nat.lt_of_lt_of_le I.lt hb), I.nofs hb, .inr (Nat.le_trans I.sz hb), fun x c e z => ?_, fun p hp z => ?_⟩
  · obtain ⟨v, q⟩ := I.cell x c e
    exact absurd (Nat.lt_of_lt_of_le q.lt (by rw [z]; exact hb)) (Nat.lt_irrefl _)
  · exact absurd (Nat.lt_of_lt_of_le (Heap.lt_size (I.pin p hp).1) (by rw [z]; exact hb)) (Nat.lt_irrefl _)
structure Turn (P : Program) (w : World) (K : PySem.W.Frag) (tg : Expr) (J : It) (fp : List Addr) (it : Addr) (tn : Nat → Heap → Prop) : Prop where
  mem : it ∈ fp
  obj : ∀ i h, tn i h → ∀ b ∈ fp, ∃ o, h.get? b = some o ∧ ∀ v, o.data ≠ .cell v
  keep : ∀ i h h', tn i h → (∀ b ∈ fp, ∀ o, h.get? b = some o → h'.get? b = some o) → tn i h'
  item : ∀ (X : Cx), X.prog = P → X.w = w → X.K = K → X.calm = true → ∀ (i : Nat) (pins : List (Addr × Obj)) (s : Shared) (σ : St) (H : Hp) (E : Value → Shared → Prop), Inv X pins σ H s → (∀ b ∈ fp, FpOk X pins H b) → tn i s.heap → J.go i H →
    wpAny (model P w) X.A (pyNext (.ref it)) (fun r s1 => ∃ u, r = some u ∧
      wpAny (model P w) X.A (letOwnedTupleGo tg (.ref it) u) (fun _ s2 => ∃ x H', Inv X pins σ H' s2 ∧ RelV x u ∧ J.yld i H x H' ∧ tn (i + 1) s2.heap ∧ ∀ b ∈ fp, H' b = none) E s1) E s
  done : ∀ (X : Cx), X.prog = P → X.w = w → X.K = K → X.calm = true → ∀ (i : Nat) (pins : List (Addr × Obj)) (s : Shared) (σ : St) (H : Hp) (E : Value → Shared → Prop), Inv X pins σ H s → (∀ b ∈ fp, FpOk X pins H b) → tn i s.heap → J.stop i H →
    wpAny (model P w) X.A (pyNext (.ref it)) (fun r s1 => r = none ∧ Inv X pins σ H s1) E s
  self : ∀ (A : Around) (i : Nat) (s : Shared) (Q : Value → Shared → Prop) (E : Value → Shared → Prop), tn i s.heap → Q (.ref it) s → wpAny (model P w) A (pyIter (.ref it)) Q E s
abbrev TI := St → Hp → (It → Hp → Prop) → Prop
def PIE (X : Cx) (pins : List (Addr × Obj)) (σ : St) (tg : Expr) (R : It → Hp → Prop) (itv : Value) (s2 : Shared) : Prop :=
  ∃ (it : Addr) (fp : List Addr) (tn : Nat → Heap → Prop) (J : It) (H' : Hp), itv = .ref it ∧ Inv X pins σ H' s2 ∧ Turn X.prog X.w X.K tg J fp it tn ∧ tn 0 s2.heap ∧ (∀ b ∈ fp, FpOk X pins H' b) ∧ R J H'
def PI (X : Cx) (tg iter : Expr) (wi : TI) : Prop :=
  ∀ (pins : List (Addr × Obj)) (s : Shared) (σ : St) (H : Hp) (R : It → Hp → Prop), Inv X pins σ H s → wi σ H R →
    wpAny (model X.prog X.w) X.A (eval iter X.env) (fun v s1 => wpAny (model X.prog X.w) X.A (pyIter v) (PIE X pins σ tg R) X.xe s1) X.xe s
theorem go_of {M : Model} {A : Around} {E : Value → Shared → Prop} {s : Shared} {tg : Expr} {it : Addr} {u : Value} {o : Obj} {n : String} {vs : Array Value} {Q : Unit → Shared → Prop} (ho : s.heap.get? it = some o) (hc : o.cls = .type n) (hd : o.data = .fields vs)
    (hn : ["enumerate", "zip", "dict_itemiterator", "dict_reverseitemiterator", "odict_iterator", "itertools.zip_longest", "itertools.pairwise"].contains n = false) (hQ : Q () s) : wpAny M A (letOwnedTupleGo tg (.ref it) u) Q E s := by
  unfold letOwnedTupleGo
  cases tg <;> first
    | exact wpAny_pure hQ
    | (cases u <;> first
        | exact wpAny_pure hQ
        | (refine wpAny_bind (wpAny_load ho ?_)
           rw [hc, hd]
           show wpAny M A (if (["enumerate", "zip", "dict_itemiterator", "dict_reverseitemiterator", "odict_iterator", "itertools.zip_longest", "itertools.pairwise"].contains n && vs[0]? == some (rawInt _)) = true then _ else _) Q E s
           rw [if_neg (by intro h; rw [hn, Bool.false_and] at h; cases h)]
           exact wpAny_pure hQ))
def Itl (K : PySem.W.Frag) (a : Addr) : It :=
  ⟨fun i H => ∃ xs x, SqL K H a xs ∧ xs[i]? = some x, fun i H x H' => H' = H ∧ ∀ xs, SqL K H a xs → xs[i]? = some x, fun i H => ∃ xs, SqL K H a xs ∧ xs.length ≤ i⟩
def Itr (lo : Int) (n : Nat) : It := ⟨fun i _ => i < n, fun i H x H' => H' = H ∧ x = .int (lo + i), fun i _ => n ≤ i⟩
theorem turn_list {P : Program} {w : World} {K : PySem.W.Frag} {tg : Expr} (a it : Addr) : Turn P w K tg (Itl K a) [it] it (fun i h => h.IsListIter it a i) where
  mem := by simp
  obj := fun i h st b hb => by
    have e : b = it := by simpa using hb
    subst e
    obtain ⟨o, e, c, d⟩ := st
    exact ⟨o, e, fun v z => by rw [d] at z; cases z⟩
  keep := fun i h h' st k => st.at fun o e => k it (by simp) o e
  item := by
    intro X hP hw hK hc i pins s σ H E I hf st hg
    subst hP hw hK
    obtain ⟨xs, x, hq, hx⟩ := hg
    obtain ⟨its, rv, p, hz⟩ := I.list hq
    obtain ⟨u, hu, ru⟩ := rv.get hx
    obtain ⟨f0, f1, f2, f3, f4, f5⟩ := hf it (by simp)
    refine wpAny_pyNext_list_item st p.isList (x := u) (by simpa using hu) fun h' st' sb => ?_
    have I1 : Inv X pins σ H { s with heap := h' } := I.turned (t' := s.toks) (fun b o hb e => (sb.2 b hb).trans e) f0 f1 f3 f4 f5
    obtain ⟨o, e, c, d⟩ := id st'
    exact ⟨u, rfl, go_of (s := { s with heap := h' }) e c d (by decide) ⟨x, H, I1, ru, ⟨rfl, fun ys hy => by rw [I.list_inj hy hq]; exact hx⟩, st', fun b hb => (hf b hb).1⟩⟩
  done := by
    intro X hP hw hK hc i pins s σ H E I hf st hg
    subst hP hw hK
    obtain ⟨xs, hq, hx⟩ := hg
    obtain ⟨its, rv, p, hz⟩ := I.list hq
    obtain ⟨f0, f1, f2, f3, f4, f5⟩ := hf it (by simp)
    have hl := rv.length
    exact wpAny_pyNext_list_end (I.ok.hd hc) st p.isList (by simp; omega) fun h' eb => ⟨rfl, I.turned (t' := s.toks) (fun b o hb e => eb b o hb e) f0 f1 f3 f4 f5⟩
  self := fun _ _ _ _ _ st h => wpAny_pyIter_listiter st h
theorem turn_range {P : Program} {w : World} {K : PySem.W.Frag} {tg : Expr} (it : Addr) (lo : Int) (n : Nat) : Turn P w K tg (Itr lo n) [it] it (fun i h => IsRangeIter h it (lo + (i : Nat) * 1) ((n : Int) - (i : Nat)) 1) where
  mem := by simp
  obj := fun i h st b hb => by
    have e : b = it := by simpa using hb
    subst e
    exact ⟨_, st, fun v z => by
      have z' : Data.fields _ = Data.cell v := z
      cases z'⟩
  keep := fun i h h' st k => k it (by simp) _ st
  item := by
    intro X hP hw hK hc i pins s σ H E I hf st hg
    subst hP hw hK
    obtain ⟨f0, f1, f2, f3, f4, f5⟩ := hf it (by simp)
    have W := Walks.range (prog := X.prog) (w := X.w) (I.ok.hd hc) it lo 1 n
    refine W.item i s _ _ hg st fun v h' tk hv st' kk => ?_
    obtain ⟨t, rfl⟩ := hv
    have I1 : Inv X pins σ H { s with heap := h', toks := tk } := I.turned (fun b o hb e => kk b o (by simpa using hb) e) f0 f1 f3 f4 f5
    refine ⟨_, rfl, go_of (s := { s with heap := h', toks := tk }) (n := "range_iterator") st' rfl rfl (by decide) ⟨.int (lo + i), H, I1, ⟨t, ?_⟩, ⟨rfl, rfl⟩, st', fun b hb => (hf b hb).1⟩⟩
    rw [Int.mul_one]
  done := by
    intro X hP hw hK hc i pins s σ H E I hf st hg
    subst hP hw hK
    obtain ⟨f0, f1, f2, f3, f4, f5⟩ := hf it (by simp)
    exact wpAny_pyNext_range_end (I.ok.hd hc) st (by have : n ≤ i := hg; omega) fun h' eb => ⟨rfl, I.turned (t' := s.toks) (fun b o hb e => eb b o hb e) f0 f1 f3 f4 f5⟩
  self := fun _ _ _ _ _ st h => wpAny_pyIter_rangeiter st h
end L2
namespace L2
open PySem PySem.Spec PyProof.Rows
section
variable {X : Cx} {tg : Expr}
def iList (K : PySem.W.Frag) (tl : TE) : TI := fun σ H R => tl σ H fun x H1 => ∃ a, x = .ref a ∧ (∃ xs, SqL K H1 a xs) ∧ R (Itl K a) H1
theorem pi_list {l : Expr} {tl : TE} (hl : PE X l tl) : PI X tg l (iList X.K tl) := by
  intro pins s σ H R I h
  refine thn (hl pins s σ H _ I h) fun v s1 ⟨x, H1, I1, r1, q1⟩ => ?_
  obtain ⟨a, e, ⟨xs, hq⟩, q⟩ := q1
  subst e
  cases r1
  obtain ⟨its, rv, p, hz⟩ := I1.list hq
  refine wpAny_pyIter_list p.isList ?_
  refine ⟨s1.heap.objs.size, [s1.heap.objs.size], _, _, H1, rfl, I1.kept (t' := s1.toks) fun b o e => Heap.get?_push_of_some _ e, turn_list a _, ⟨_, Heap.get?_push_size _ rfl, rfl, rfl⟩, fun b hb => ?_, q⟩
  have e : b = s1.heap.objs.size := by simpa using hb
  subst e
  exact I1.fpOk (Nat.le_refl _) (I1.hok.fresh (Nat.le_refl _))
theorem range_it {pins : List (Addr × Obj)} {σ : St} {H : Hp} {s : Shared} {R : It → Hp → Prop} {E : Value → Shared → Prop} {lo hi : Int} {t u v : Tok} {tk : Nat} (I : Inv X pins σ H s) (h1 : -(2 ^ 62) ≤ lo) (h2 : lo < 2 ^ 62) (h3 : -(2 ^ 62) ≤ hi) (h4 : hi < 2 ^ 62)
    (q : R (Itr lo (hi - lo).toNat) H) : wpAny (model X.prog X.w) X.A (pyIter (.ref s.heap.objs.size)) (PIE X pins σ tg R) E { s with heap := s.heap.push { cls := .type "range", data := .fields #[.int lo t, .int hi u, .int 1 v] }, toks := tk } := by
  refine wpAny_pyIter_range (IsRange.new ..) (small_one h1 h2 h3 h4) ?_
  have I1 : Inv X pins σ H { s with heap := s.heap.push { cls := .type "range", data := .fields #[.int lo t, .int hi u, .int 1 v] }, toks := tk } := I.kept fun b o e => Heap.get?_push_of_some _ e
  refine ⟨(s.heap.push { cls := .type "range", data := .fields #[.int lo t, .int hi u, .int 1 v] }).objs.size, [(s.heap.push { cls := .type "range", data := .fields #[.int lo t, .int hi u, .int 1 v] }).objs.size], _, _, H, rfl,
    I1.kept (t' := tk) fun b o e => Heap.get?_push_of_some _ e, turn_range _ lo (hi - lo).toNat, ?_, fun b hb => ?_, q⟩
  · have e1 : lo + ((0 : Nat) : Int) * 1 = lo := by simp
    have e2 : (((hi - lo).toNat : Nat) : Int) - ((0 : Nat) : Int) = Builtin.Range.rangeSize lo hi 1 := by rw [rangeSize_one]; split <;> omega
    show IsRangeIter _ _ (lo + ((0 : Nat) : Int) * 1) ((((hi - lo).toNat : Nat) : Int) - ((0 : Nat) : Int)) 1
    rw [e1, e2]
    exact Heap.get?_push_size _ rfl
  · have e : b = (s.heap.push { cls := .type "range", data := .fields #[.int lo t, .int hi u, .int 1 v] }).objs.size := by simpa using hb
    subst e
    exact I1.fpOk (Nat.le_refl _) (I1.hok.fresh (Nat.le_refl _))
def iRng1 (ta : TA) : TI := fun σ H R => ta σ H fun vs H1 => ∃ j : Int, vs = [.int j] ∧ -(2 ^ 62) ≤ j ∧ j < 2 ^ 62 ∧ R (Itr 0 j.toNat) H1
theorem pi_range1 {a : Expr} {ta : TA} {p pos : Pos} (hg : Gl X "range") (hm : X.mg "range" = none) (ha : PA X [a] ta) (hs : starEach [a] X.env = [(false, eval a X.env)] := by rfl) : PI X tg (.Call (.Name "range" p) [a] [] pos) (iRng1 ta) := by
  intro pins s σ H R I h
  refine Call_ (ld_blt I hg hm boot_range (PyProof.Rows.callWith_type1 (thn (ha pos pins s σ H _ I h) fun us s1 ⟨vs, H1, I1, r1, q1⟩ => ?_) hs rfl))
  obtain ⟨j, e, q1, q2, q⟩ := q1
  subst e
  cases r1 with
  | cons r rr =>
    cases rr
    obtain ⟨t, rfl⟩ := r
    exact call_range_1 (range_it I1 (by omega) (by omega) q1 q2 (by simpa using q))
def tFor (wi : TI) (g : TG) (tb : TS) : TS := fun D σ H => wi σ H fun J H1 => ∃ W : Nat → Nat → St → Hp → Prop, (∃ m, W 0 m σ H1) ∧ ∀ i m σ H, W i m σ H →
  (J.stop i H ∧ D.nx σ H) ∨ (J.go i H ∧ ∃ N : St → Hp → Prop, (∀ σ' H', N σ' H' → ∃ m', m' < m ∧ W (i + 1) m' σ' H') ∧ ∀ x H', J.yld i H x H' → g x σ H' fun σ2 H2 => tb { D with nx := N, ct := N, bk := D.nx } σ2 H2)
def pinsAt (fp : List Addr) (h : Heap) : List (Addr × Obj) := fp.filterMap fun b => (h.get? b).map fun o => (b, o)
theorem mem_pinsAt {fp : List Addr} {h : Heap} {b : Addr} {o : Obj} (hb : b ∈ fp) (e : h.get? b = some o) : (b, o) ∈ pinsAt fp h := List.mem_filterMap.mpr ⟨b, hb, by rw [e]; rfl⟩
theorem of_pinsAt {fp : List Addr} {h : Heap} {p : Addr × Obj} (hp : p ∈ pinsAt fp h) : p.1 ∈ fp ∧ h.get? p.1 = some p.2 := by
  obtain ⟨b, hb, e⟩ := List.mem_filterMap.mp hp
  cases q : h.get? b with
  | none => rw [q] at e; cases e
  | some o =>
    rw [q] at e
    have e' : (b, o) = p := Option.some.inj e
    subst e'
    exact ⟨hb, q⟩
theorem Inv.pinned {pins : List (Addr × Obj)} {σ : St} {H : Hp} {s : Shared} {fp : List Addr} (I : Inv X pins σ H s) (hf : ∀ b ∈ fp, FpOk X pins H b) (ho : ∀ b ∈ fp, ∃ o, s.heap.get? b = some o ∧ ∀ v, o.data ≠ .cell v) : Inv X (pins ++ pinsAt fp s.heap) σ H s :=
  I.pins_of fun p hp => (List.mem_append.mp hp).elim (fun z => I.pin p (List.mem_append_right _ z)) fun z => by
    obtain ⟨hb, e⟩ := of_pinsAt z
    obtain ⟨f0, f1, f2, _⟩ := hf p.1 hb
    obtain ⟨o, e', d⟩ := ho p.1 hb
    rw [e] at e'; cases e'
    exact ⟨e, f0, f1, f2, d⟩
theorem Inv.unpinned {pins pl : List (Addr × Obj)} {σ : St} {H : Hp} {s : Shared} (I : Inv X (pins ++ pl) σ H s) : Inv X pins σ H s := I.pins_of fun p hp => I.pin p (List.mem_append_right _ (List.mem_append_left _ hp))
theorem ps_for {iter : Expr} {body : List Stmt} {wi : TI} {g : TG} {tb : TS} {pos : Pos} (hp : PassesOwn (model X.prog X.w) X.A X.env X.xe) (hc : X.calm = true) (hi : PI X tg iter wi) (hg : PG X tg g) (hb : PSs X body tb)
    (hs : ∀ x, foldedSetIterable iter X.env x = pure x := by intro _; rfl) : PS X (.For tg iter body [] pos) (tFor wi g tb) := by
  intro pins s σ H D I h
  refine wpAny_For (thn (hi pins s σ H _ I h) fun v s1 h1 => thn h1 fun itv s2 h2 => ?_) hs
  obtain ⟨it, fp, tn, J, H2, e, I2, T, st2, f2, W, ⟨m0, w0⟩, turn⟩ := h2
  subst e
  -- what stays true of the iterator's objects through the loop
  have stat : ∀ {H' : Hp}, (∀ b ∈ fp, H' b = none) → ∀ b ∈ fp, FpOk X pins H' b := fun hn b hb => ⟨hn b hb, (f2 b hb).2⟩
  refine codeAny_forLoop_any (fun n s' => ∃ i σ' H', Inv X pins σ' H' s' ∧ tn i s'.heap ∧ (∀ b ∈ fp, H' b = none) ∧ W i n σ' H') ?_ m0 ⟨0, σ, H2, I2, st2, fun b hb => (f2 b hb).1, w0⟩
  rintro n s3 ⟨i, σ3, H3, I3, st3, fr3, w3⟩
  rcases turn i n σ3 H3 w3 with ⟨stop, qn⟩ | ⟨go, N, hN, step⟩
  · refine wpAny_passesOwn hp (thn (T.done X rfl rfl rfl hc i pins s3 σ3 H3 X.xe I3 (stat fr3) st3 stop) fun r s4 ⟨hr, I4⟩ => ?_)
    subst hr
    exact wpAny_execs_nil ⟨σ3, H3, I4, qn⟩
  · refine wpAny_passesOwn hp (thn (T.item X rfl rfl rfl hc i pins s3 σ3 H3 X.xe I3 (stat fr3) st3 go) fun r s4 ⟨u, hr, h4⟩ => ?_)
    subst hr
    refine wpAny_passesOwn hp (thn h4 fun _ s5 ⟨x, H5, I5, r5, y5, st5, fr5⟩ => ?_)
    have I5' := I5.pinned (stat fr5) (T.obj _ _ st5)
    refine wpAny_passesOwn hp (thn (hg _ s5 σ3 H5 x u _ I5' r5 (step x H5 y5)) fun _ s6 ⟨σ6, H6, I6, q6⟩ => ?_)
    refine wpAny_passesOwn hp (thn (hb _ s6 σ6 H6 _ I6 q6) fun f s7 q7 => ?_)
    have again : ∀ {σ7 : St} {H7 : Hp}, Inv X (pins ++ pinsAt fp s5.heap) σ7 H7 s7 → N σ7 H7 → ∃ m, m < n ∧ ∃ i σ' H', Inv X pins σ' H' s7 ∧ tn i s7.heap ∧ (∀ b ∈ fp, H' b = none) ∧ W i m σ' H' := fun {σ7 H7} I7 n7 => by
      obtain ⟨m', hm, w7⟩ := hN σ7 H7 n7
      refine ⟨m', hm, i + 1, σ7, H7, I7.unpinned, T.keep _ _ _ st5 fun b hb o e => (I7.pin (b, o) (List.mem_append_right _ (List.mem_append_right _ (mem_pinsAt hb e)))).1, fun b hb => ?_, w7⟩
      obtain ⟨o, e, d⟩ := T.obj _ _ st5 b hb
      exact (I7.pin (b, o) (List.mem_append_right _ (List.mem_append_right _ (mem_pinsAt hb e)))).2.1
    cases f with
    | next => obtain ⟨σ7, H7, I7, n7⟩ := q7; exact again I7 n7
    | cont => obtain ⟨σ7, H7, I7, n7⟩ := q7; exact again I7 n7
    | brk => obtain ⟨σ7, H7, I7, q7⟩ := q7; exact ⟨σ7, H7, I7.unpinned, q7⟩
    | ret v => obtain ⟨x7, σ7, H7, I7, r7, q7⟩ := q7; exact ⟨x7, σ7, H7, I7.unpinned, r7, q7⟩
end
theorem for_list {K : PySem.W.Frag} {a : Addr} {xs : List V} {g : TG} {tb : TS} {D : Ends} {σ : St} {H : Hp} (Pv : Nat → St → Hp → Prop) (h0 : Pv 0 σ H) (hl : ∀ i σ H, i ≤ xs.length → Pv i σ H → SqL K H a xs)
    (hs : ∀ i x σ H, xs[i]? = some x → Pv i σ H → g x σ H fun σ2 H2 => tb { D with nx := Pv (i + 1), ct := Pv (i + 1), bk := D.nx } σ2 H2) (hd : ∀ σ H, Pv xs.length σ H → D.nx σ H) :
    ∃ W : Nat → Nat → St → Hp → Prop, (∃ m, W 0 m σ H) ∧ ∀ i m σ H, W i m σ H →
      ((Itl K a).stop i H ∧ D.nx σ H) ∨ ((Itl K a).go i H ∧ ∃ N : St → Hp → Prop, (∀ σ' H', N σ' H' → ∃ m', m' < m ∧ W (i + 1) m' σ' H') ∧ ∀ x H', (Itl K a).yld i H x H' → g x σ H' fun σ2 H2 => tb { D with nx := N, ct := N, bk := D.nx } σ2 H2) := by
  refine ⟨fun i m σ H => m = xs.length - i ∧ i ≤ xs.length ∧ Pv i σ H, ⟨xs.length, by simp, Nat.zero_le _, h0⟩, ?_⟩
  rintro i m σ H ⟨rfl, hi, p⟩
  have q := hl i σ H hi p
  by_cases hlt : i < xs.length
  · refine .inr ⟨⟨xs, xs[i], q, by simp [hlt]⟩, Pv (i + 1), fun σ' H' p' => ⟨xs.length - (i + 1), by omega, rfl, hlt, p'⟩, fun x H' y => ?_⟩
    obtain ⟨e, y⟩ := y
    subst e
    exact hs i x σ _ (y xs q) p
  · have e : i = xs.length := by omega
    subst e
    exact .inl ⟨⟨xs, q, Nat.le_refl _⟩, hd σ H p⟩
theorem for_range {lo : Int} {n : Nat} {g : TG} {tb : TS} {D : Ends} {σ : St} {H : Hp} (Pv : Nat → St → Hp → Prop) (h0 : Pv 0 σ H)
    (hs : ∀ i σ H, i < n → Pv i σ H → g (.int (lo + i)) σ H fun σ2 H2 => tb { D with nx := Pv (i + 1), ct := Pv (i + 1), bk := D.nx } σ2 H2) (hd : ∀ σ H, Pv n σ H → D.nx σ H) :
    ∃ W : Nat → Nat → St → Hp → Prop, (∃ m, W 0 m σ H) ∧ ∀ i m σ H, W i m σ H →
      ((Itr lo n).stop i H ∧ D.nx σ H) ∨ ((Itr lo n).go i H ∧ ∃ N : St → Hp → Prop, (∀ σ' H', N σ' H' → ∃ m', m' < m ∧ W (i + 1) m' σ' H') ∧ ∀ x H', (Itr lo n).yld i H x H' → g x σ H' fun σ2 H2 => tb { D with nx := N, ct := N, bk := D.nx } σ2 H2) := by
  refine ⟨fun i m σ H => m = n - i ∧ i ≤ n ∧ Pv i σ H, ⟨n, by simp, Nat.zero_le _, h0⟩, ?_⟩
  rintro i m σ H ⟨rfl, hi, p⟩
  by_cases hlt : i < n
  · refine .inr ⟨hlt, Pv (i + 1), fun σ' H' p' => ⟨n - (i + 1), by omega, rfl, hlt, p'⟩, fun x H' y => ?_⟩
    obtain ⟨e, y⟩ := y
    subst e y
    exact hs i σ _ hlt p
  · have e : i = n := by omega
    subst e
    exact .inl ⟨Nat.le_refl _, hd σ H p⟩
end L2
namespace L2
open PySem PySem.Spec PyProof.Rows
abbrev R2 := V → V → Hp → VK → Prop
def OpR (X : Cx) (f : Value → Value → Sem Value) (r : R2) : Prop :=
  ∀ (pins : List (Addr × Obj)) (s : Shared) (σ : St) (H : Hp) (x y : V) (v u : Value) (Q : VK), Inv X pins σ H s → RelV x v → RelV y u → r x y H Q →
    wpAny (model X.prog X.w) X.A (f v u) (EP X pins σ Q) X.xe s
def UnR (X : Cx) (f : Value → Sem Value) (r : V → Hp → VK → Prop) : Prop :=
  ∀ (pins : List (Addr × Obj)) (s : Shared) (σ : St) (H : Hp) (x : V) (v : Value) (Q : VK), Inv X pins σ H s → RelV x v → r x H Q →
    wpAny (model X.prog X.w) X.A (f v) (EP X pins σ Q) X.xe s
def CallR (X : Cx) (f : Value) (r : List V → Hp → VK → Prop) : Prop :=
  ∀ (pins : List (Addr × Obj)) (s : Shared) (σ : St) (H : Hp) (xs : List V) (us : List Value) (Q : VK), Inv X pins σ H s → Vals xs us → r xs H Q →
    wpAny (model X.prog X.w) X.A (call f us) (EP X pins σ Q) X.xe s
def tOp (r : R2) (ta tb : TE) : TE := fun σ H Q => ta σ H fun x H1 => tb σ H1 fun y H2 => r x y H2 Q
def tUn (r : V → Hp → VK → Prop) (ta : TE) : TE := fun σ H Q => ta σ H fun x H1 => r x H1 Q
def rI (C : Int → Int → Prop) (g : Int → Int → V) : R2 := fun x y H Q => ∃ i j, x = .int i ∧ y = .int j ∧ C i j ∧ Q (g i j) H
def rI0 (g : Int → Int → V) : R2 := fun x y H Q => ∃ i j, x = .int i ∧ y = .int j ∧ Q (g i j) H
def rU (g : Int → V) : V → Hp → VK → Prop := fun x H Q => ∃ i, x = .int i ∧ Q (g i) H
section
variable {X : Cx} {a b c : Expr} {ta tb tc : TE} {pos : Pos}
theorem binT (ha : PE X a ta) (hb : PE X b tb) {pins : List (Addr × Obj)} {s : Shared} {σ : St} {H : Hp} {R : V → V → Hp → Prop} (I : Inv X pins σ H s)
    (h : ta σ H fun x H1 => tb σ H1 fun y H2 => R x y H2) {Q : Value → Shared → Prop} {f : Value → Value → Sem Value}
    (hf : ∀ v u s2 x y H2, Inv X pins σ H2 s2 → RelV x v → RelV y u → R x y H2 → wpAny (model X.prog X.w) X.A (f v u) Q X.xe s2) :
    wpAny (model X.prog X.w) X.A (eval a X.env) (fun v s₁ => wpAny (model X.prog X.w) X.A (eval b X.env) (fun u s₂ => wpAny (model X.prog X.w) X.A (f v u) Q X.xe s₂) X.xe s₁) X.xe s := by
  refine thn (ha pins s σ H _ I h) fun v s1 ⟨x, H1, I1, r1, q1⟩ => ?_
  refine thn (hb pins s1 σ H1 _ I1 q1) fun u s2 ⟨y, H2, I2, r2, q2⟩ => ?_
  exact hf v u s2 x y H2 I2 r1 r2 q2
theorem pe_op {op : Operator} {r : R2} (ho : OpR X (binaryOp op) r) (ha : PE X a ta) (hb : PE X b tb) : PE X (.BinOp a op b pos) (tOp r ta tb) := by
  intro pins s σ H Q I h
  exact wpAny_BinOp (binT ha hb I h fun v u s2 x y H2 I2 rx ry q => ho pins s2 σ H2 x y v u Q I2 rx ry q)
theorem pe_un {op : UnaryOp} {r : V → Hp → VK → Prop} (ho : UnR X (unaryOp op) r) (ha : PE X a ta) : PE X (.UnaryOp op a pos) (tUn r ta) := by
  intro pins s σ H Q I h
  exact UnaryOp_ (thn (ha pins s σ H _ I h) fun v s1 ⟨x, H1, I1, r1, q1⟩ => ho pins s1 σ H1 x v Q I1 r1 q1)
theorem opI {f : Value → Value → Sem Value} {C : Int → Int → Prop} {g : Int → Int → Int}
    (rule : ∀ (i j : Int) (t u : Tok) (s : Shared) (Q : Value → Shared → Prop) (E : Value → Shared → Prop), C i j → Q (.int (g i j) s.toks) { s with toks := s.toks + 1 } → wpAny (model X.prog X.w) X.A (f (.int i t) (.int j u)) Q E s) :
    OpR X f (rI C fun i j => .int (g i j)) := by
  intro pins s σ H x y v u Q I rx ry h
  obtain ⟨i, j, rfl, rfl, hc, q⟩ := h
  obtain ⟨t, rfl⟩ := rx
  obtain ⟨t', rfl⟩ := ry
  exact rule i j t t' s _ _ hc ⟨.int (g i j), H, I.tok _, ⟨_, rfl⟩, q⟩
theorem opI0 {f : Value → Value → Sem Value} {g : Int → Int → Int}
    (rule : ∀ (i j : Int) (t u : Tok) (s : Shared) (Q : Value → Shared → Prop) (E : Value → Shared → Prop), Q (.int (g i j) s.toks) { s with toks := s.toks + 1 } → wpAny (model X.prog X.w) X.A (f (.int i t) (.int j u)) Q E s) :
    OpR X f (rI0 fun i j => .int (g i j)) := by
  intro pins s σ H x y v u Q I rx ry h
  obtain ⟨i, j, rfl, rfl, q⟩ := h
  obtain ⟨t, rfl⟩ := rx
  obtain ⟨t', rfl⟩ := ry
  exact rule i j t t' s _ _ ⟨.int (g i j), H, I.tok _, ⟨_, rfl⟩, q⟩
theorem opB0 {f : Value → Value → Sem Value} {g : Int → Int → Bool}
    (rule : ∀ (i j : Int) (t u : Tok) (s : Shared) (Q : Value → Shared → Prop) (E : Value → Shared → Prop), Q (.bool (g i j)) s → wpAny (model X.prog X.w) X.A (f (.int i t) (.int j u)) Q E s) :
    OpR X f (rI0 fun i j => .bl (g i j)) := by
  intro pins s σ H x y v u Q I rx ry h
  obtain ⟨i, j, rfl, rfl, q⟩ := h
  obtain ⟨t, rfl⟩ := rx
  obtain ⟨t', rfl⟩ := ry
  exact rule i j t t' s _ _ ⟨.bl (g i j), H, I, rfl, q⟩
def CDiv (i j : Int) : Prop := 0 < j ∧ j < 1073741824
def CMul (i j : Int) : Prop := (-(2 ^ 64) < i ∧ i < 2 ^ 64) ∨ (-(2 ^ 64) < j ∧ j < 2 ^ 64)
theorem CMul.ok {i j : Int} (h : CMul i j) : IntMulOk i j := by
  rcases h with ⟨h1, h2⟩ | ⟨h1, h2⟩
  · exact .of_left (intBits_le_64 h1 h2)
  · exact .of_right (intBits_le_64 h1 h2)
theorem two_pow_nn (k : Nat) : (0 : Int) ≤ 2 ^ k := by
  rw [two_pow_cast]
  exact Int.natCast_nonneg _
theorem op_add : OpR X (binaryOp .Add) (rI0 fun i j => .int (i + j)) := opI0 fun _ _ _ _ _ _ _ q => add_int q
theorem op_mul : OpR X (binaryOp .Mult) (rI CMul fun i j => .int (i * j)) := opI fun _ _ _ _ _ _ _ hc q => mul_int q hc.ok
theorem op_fdiv : OpR X (binaryOp .FloorDiv) (rI CDiv fun i j => .int (i / j)) := opI fun i j _ _ _ _ _ hc q => by
  have h1 : (0 : Int) < j := hc.1
  have h2 : j < 1073741824 := hc.2
  exact floordiv_int (by omega) (by rw [Int.fdiv_eq_ediv_of_nonneg i (by omega)]; exact q) (.inl (PyProof.noPylong_small (by omega)))
theorem op_mod : OpR X (binaryOp .Mod) (rI (fun _ j => 0 < j) fun i j => .int (i % j)) := opI fun i j _ _ _ _ _ hc q => by
  have h1 : (0 : Int) < j := hc
  exact mod_int' (by omega) (by rw [Int.fmod_eq_emod_of_nonneg i (by omega)]; exact q)
theorem op_shr : OpR X (binaryOp .RShift) (rI (fun _ j => 0 ≤ j) fun i j => .int (i / 2 ^ j.toNat)) := opI fun i j _ _ _ _ _ hc q =>
  rshift_int hc (by rw [Int.fdiv_eq_ediv_of_nonneg i (two_pow_nn _)]; exact q)
theorem unI {f : Value → Sem Value} {g : Int → Int}
    (rule : ∀ (i : Int) (t : Tok) (s : Shared) (Q : Value → Shared → Prop) (E : Value → Shared → Prop), Q (.int (g i) s.toks) { s with toks := s.toks + 1 } → wpAny (model X.prog X.w) X.A (f (.int i t)) Q E s) :
    UnR X f (rU fun i => .int (g i)) := by
  intro pins s σ H x v Q I rx h
  obtain ⟨i, rfl, q⟩ := h
  obtain ⟨t, rfl⟩ := rx
  exact rule i t s _ _ ⟨.int (g i), H, I.tok _, ⟨_, rfl⟩, q⟩
theorem un_neg : UnR X (unaryOp .USub) (rU fun i => .int (-i)) := unI fun _ _ _ _ _ q => neg_int q
end
def scal : V → V → Bool
  | .non, .non => true | .non, .int _ => true | .int _, .non => true | .non, .bl _ => true | .bl _, .non => true | .non, .str _ => true | .str _, .non => true
  | .int _, .int _ => true | .bl _, .bl _ => true | .str _, .str _ => true | .byt _, .byt _ => true
  | .int _, .str _ => true | .str _, .int _ => true | .bl _, .str _ => true | .str _, .bl _ => true
  | _, _ => false
def rEq : R2 := fun x y H Q => scal x y = true ∧ Q (.bl (decide (x = y))) H
def rNe : R2 := fun x y H Q => scal x y = true ∧ Q (.bl (!decide (x = y))) H
theorem dec_int {i j : Int} : decide (V.int i = V.int j) = (i == j) := by
  rw [Bool.eq_iff_iff]
  simp
theorem dec_bl {i j : Bool} : decide (V.bl i = V.bl j) = (i == j) := by
  rw [Bool.eq_iff_iff]
  simp
theorem dec_str {i j : Str} : decide (V.str i = V.str j) = (i == j) := by
  rw [Bool.eq_iff_iff]
  simp
theorem dec_byt {i j : Array UInt8} : decide (V.byt i = V.byt j) = (i.toList == j.toList) := by
  rw [Bool.eq_iff_iff]
  cases i
  cases j
  simp
section
variable {X : Cx} {a b c : Expr} {ta tb tc : TE} {pos : Pos}
theorem fin_bl {pins : List (Addr × Obj)} {σ : St} {H : Hp} {s : Shared} {Q : VK} {k k' : Bool} (I : Inv X pins σ H s) (q : Q (.bl k) H) (e : k = k') : EP X pins σ Q (.bool k') s := by
  subst e
  exact ⟨.bl k, H, I, rfl, q⟩
theorem op_eq : OpR X (compareOp .Eq) rEq := by
  intro pins s σ H x y v u Q I rx ry h
  obtain ⟨hs, q⟩ := h
  cases x with
  | non =>
    cases rx
    cases y with
    | non => cases ry; exact PySem.EqNone.eq_none_none (fin_bl I q (by simp))
    | bl j => cases ry; exact PySem.EqNone.eq_none_bool (fin_bl I q (by simp))
    | int j => obtain ⟨t', rfl⟩ := ry; exact PySem.EqNone.eq_none_int (fin_bl I q (by simp))
    | str j => obtain ⟨t', rfl⟩ := ry; exact PySem.EqNone.eq_none_str (fin_bl I q (by simp))
    | _ => exact absurd (show false = true from hs) Bool.false_ne_true
  | bl i =>
    cases rx
    cases y with
    | non => cases ry; exact PySem.EqNone.eq_bool_none (fin_bl I q (by simp))
    | bl j => cases ry; exact eq_bool (fin_bl I q dec_bl)
    | str j => obtain ⟨t', rfl⟩ := ry; exact PySem.EqMixed.eq_bool_str (fin_bl I q (by simp))
    | _ => exact absurd (show false = true from hs) Bool.false_ne_true
  | int i =>
    obtain ⟨t, rfl⟩ := rx
    cases y with
    | non => cases ry; exact PySem.EqNone.eq_int_none (fin_bl I q (by simp))
    | int j => obtain ⟨t', rfl⟩ := ry; exact eq_int (fin_bl I q dec_int)
    | str j => obtain ⟨t', rfl⟩ := ry; exact PySem.EqMixed.eq_int_str (fin_bl I q (by simp))
    | _ => exact absurd (show false = true from hs) Bool.false_ne_true
  | str i =>
    obtain ⟨t, rfl⟩ := rx
    cases y with
    | non => cases ry; exact PySem.EqNone.eq_str_none (fin_bl I q (by simp))
    | bl j => cases ry; exact PySem.EqMixed.eq_str_bool (fin_bl I q (by simp))
    | int j => obtain ⟨t', rfl⟩ := ry; exact PySem.EqMixed.eq_str_int (fin_bl I q (by simp))
    | str j => obtain ⟨t', rfl⟩ := ry; exact eq_str (fin_bl I q dec_str)
    | _ => exact absurd (show false = true from hs) Bool.false_ne_true
  | byt i =>
    obtain ⟨t, rfl⟩ := rx
    cases y with
    | byt j => obtain ⟨t', rfl⟩ := ry; exact PySem.W.eq_bytes (fin_bl I q dec_byt)
    | _ => exact absurd (show false = true from hs) Bool.false_ne_true
  | _ => cases y <;> exact absurd (show false = true from hs) Bool.false_ne_true
theorem op_ne : OpR X (compareOp .NotEq) rNe := by
  intro pins s σ H x y v u Q I rx ry h
  obtain ⟨hs, q⟩ := h
  cases x with
  | non =>
    cases rx
    cases y with
    | non => cases ry; exact PySem.EqNone.ne_none_none (fin_bl I q (by simp))
    | bl j => cases ry; exact PySem.EqNone.ne_none_bool (fin_bl I q (by simp))
    | int j => obtain ⟨t', rfl⟩ := ry; exact PySem.EqNone.ne_none_int (fin_bl I q (by simp))
    | str j => obtain ⟨t', rfl⟩ := ry; exact PySem.EqNone.ne_none_str (fin_bl I q (by simp))
    | _ => exact absurd (show false = true from hs) Bool.false_ne_true
  | bl i =>
    cases rx
    cases y with
    | non => cases ry; exact PySem.EqNone.ne_bool_none (fin_bl I q (by simp))
    | bl j => cases ry; exact ne_bool (fin_bl I q (congrArg not dec_bl))
    | str j => obtain ⟨t', rfl⟩ := ry; exact PySem.EqMixed.ne_bool_str (fin_bl I q (by simp))
    | _ => exact absurd (show false = true from hs) Bool.false_ne_true
  | int i =>
    obtain ⟨t, rfl⟩ := rx
    cases y with
    | non => cases ry; exact PySem.EqNone.ne_int_none (fin_bl I q (by simp))
    | int j => obtain ⟨t', rfl⟩ := ry; exact ne_int (fin_bl I q (congrArg not dec_int))
    | str j => obtain ⟨t', rfl⟩ := ry; exact PySem.EqMixed.ne_int_str (fin_bl I q (by simp))
    | _ => exact absurd (show false = true from hs) Bool.false_ne_true
  | str i =>
    obtain ⟨t, rfl⟩ := rx
    cases y with
    | non => cases ry; exact PySem.EqNone.ne_str_none (fin_bl I q (by simp))
    | bl j => cases ry; exact PySem.EqMixed.ne_str_bool (fin_bl I q (by simp))
    | int j => obtain ⟨t', rfl⟩ := ry; exact PySem.EqMixed.ne_str_int (fin_bl I q (by simp))
    | str j => obtain ⟨t', rfl⟩ := ry; exact ne_str (fin_bl I q (congrArg not dec_str))
    | _ => exact absurd (show false = true from hs) Bool.false_ne_true
  | byt i =>
    obtain ⟨t, rfl⟩ := rx
    cases y with
    | byt j => obtain ⟨t', rfl⟩ := ry; exact PySem.W.ne_bytes (fin_bl I q (congrArg not dec_byt))
    | _ => exact absurd (show false = true from hs) Bool.false_ne_true
  | _ => cases y <;> exact absurd (show false = true from hs) Bool.false_ne_true
theorem op_lt : OpR X (compareOp .Lt) (rI0 fun i j => .bl (decide (i < j))) := opB0 fun _ _ _ _ _ _ _ q => lt_int q
theorem op_gt : OpR X (compareOp .Gt) (rI0 fun i j => .bl (decide (j < i))) := opB0 fun _ _ _ _ _ _ _ q => gt_int q
theorem op_ge : OpR X (compareOp .GtE) (rI0 fun i j => .bl (decide (j ≤ i))) := opB0 fun _ _ _ _ _ _ _ q => ge_int q
theorem op_isN : OpR X (compareOp .Is) (fun x y H Q => y = .non ∧ Q (.bl (decide (x = .non))) H) := by
  intro pins s σ H x y v u Q I rx ry h
  obtain ⟨rfl, q⟩ := h
  cases ry
  refine is_none_gen (fin_bl I q ?_)
  cases x <;> first
    | (cases rx; rfl)
    | (obtain ⟨t, rfl⟩ := rx; rfl)
theorem op_notN : OpR X (compareOp .IsNot) (fun x y H Q => y = .non ∧ Q (.bl (!decide (x = .non))) H) := by
  intro pins s σ H x y v u Q I rx ry h
  obtain ⟨rfl, q⟩ := h
  cases ry
  refine isnot_none_gen (fin_bl I q ?_)
  cases x <;> first
    | (cases rx; rfl)
    | (obtain ⟨t, rfl⟩ := rx; rfl)
theorem nomark (b : Expr) {op : CmpOp} (h : op ≠ .In := by decide) (h2 : op ≠ .NotIn := by decide) : behindInMarks op b = false := by
  have e1 : (op == CmpOp.In) = false := by cases op <;> first | rfl | exact absurd rfl h
  have e2 : (op == CmpOp.NotIn) = false := by cases op <;> first | rfl | exact absurd rfl h2
  cases b <;> simp [behindInMarks, e1, e2]
theorem pe_cmpR {op : CmpOp} {r : R2} (ho : OpR X (compareOp op) r) (ha : PE X a ta) (hb : PE X b tb) (hm : behindInMarks op b = false) : PE X (.Compare a [op] [b] pos) (tOp r ta tb) := by
  intro pins s σ H Q I h
  exact wpAny_Compare1 (binT ha hb I h fun v u s2 x y H2 I2 rx ry q => ho pins s2 σ H2 x y v u Q I2 rx ry q) hm
def tTest (t : TE) : TT := fun σ H Q => t σ H fun x H' => ∃ k, x = .bl k ∧ Q k H'
theorem pt_cmpR {op : CmpOp} {r : R2} (ho : OpR X (compareOp op) r) (ha : PE X a ta) (hb : PE X b tb) (hm : behindInMarks op b = false) : PT X (.Compare a [op] [b] pos) (tTest (tOp r ta tb)) := by
  intro pins s σ H Q I h
  refine wpAny_isTrue_Compare1 (thn (ha pins s σ H _ I h) fun v s1 ⟨x, H1, I1, r1, q1⟩ => thn (hb pins s1 σ H1 _ I1 q1) fun u s2 ⟨y, H2, I2, r2, q2⟩ =>
    thn (ho pins s2 σ H2 x y v u _ I2 r1 r2 q2) fun c s3 ⟨z, H3, I3, r3, k, e, q3⟩ => ?_) hm
  subst e
  cases r3
  exact wpAny_truthy_bool ⟨H3, I3, q3⟩
theorem line63 : (sizeLine : Nat) < 2 ^ 63 := by rw [sizeLine_eq]; decide
theorem op_add_str : OpR X (binaryOp .Add) (fun x y H Q => ∃ i j, x = .str i ∧ y = .str j ∧ i.length + j.length ≤ sizeLine ∧ Q (.str (i ++ j)) H) := by
  intro pins s σ H x y v u Q I rx ry h
  obtain ⟨i, j, rfl, rfl, hz, q⟩ := h
  obtain ⟨t, rfl⟩ := rx
  obtain ⟨t', rfl⟩ := ry
  exact add_str (fun t' tk => ⟨.str (i ++ j), H, I.tok _, ⟨_, rfl⟩, q⟩) hz
theorem vals1 {x : V} {us : List Value} (r : Vals [x] us) : ∃ u, us = [u] ∧ RelV x u := by
  cases r with
  | cons r1 r2 => cases r2; exact ⟨_, rfl, r1⟩
theorem vals2 {x y : V} {us : List Value} (r : Vals [x, y] us) : ∃ u w', us = [u, w'] ∧ RelV x u ∧ RelV y w' := by
  cases r with
  | cons r1 r2 =>
    cases r2 with
    | cons r3 r4 => cases r4; exact ⟨_, _, rfl, r1, r3⟩
theorem call_min2 (hc : X.calm = true) : CallR X (.builtin "min") (fun xs H Q => ∃ i j, xs = [.int i, .int j] ∧ Q (.int (if j < i then j else i)) H) := by
  intro pins s σ H xs us Q I r h
  obtain ⟨i, j, rfl, q⟩ := h
  obtain ⟨u, w', rfl, ⟨t, rfl⟩, ⟨t', rfl⟩⟩ := vals2 r
  refine min_two_ints (I.ok.hd hc) fun h' tk k => ⟨_, H, I.kept k, ?_, q⟩
  by_cases hj : j < i
  · rw [if_pos hj, if_pos hj]; exact ⟨_, rfl⟩
  · rw [if_neg hj, if_neg hj]; exact ⟨_, rfl⟩
theorem call_str_int : CallR X (.type "str") (fun xs H Q => ∃ i, xs = [.int i] ∧ i.natAbs.log2 < 1920 ∧ Q (.str (toString i)) H) := by
  intro pins s σ H xs us Q I r h
  obtain ⟨i, rfl, hz, q⟩ := h
  obtain ⟨u, rfl, t, rfl⟩ := vals1 r
  exact PySem.P.str_of_int hz ⟨.str _, H, I.tok _, ⟨_, rfl⟩, q⟩
end
end L2
namespace L2
open PySem PySem.Spec PyProof.Rows
structure ObjM (h : Heap) (x dx C : Addr) (mA : Str → Option Value) : Prop where
  obj : h.get? x = some (PySem.W.instObj C dx)
  ns : h.Ns1 dx mA
  ne : dx ≠ x
theorem lookIn_ns {h : Heap} {dx : Addr} {mA : Str → Option Value} (n : h.Ns1 dx mA) : ∃ od, h.get? dx = some od ∧ ∀ name, PySem.W.lookIn name od = some (mA name) := by
  obtain ⟨o, es, ep, ho, hd, hk, _, hm⟩ := n
  refine ⟨o, ho, fun name => ?_⟩
  have e := hm name
  unfold nsFind findBy at e
  rw [← Array.find?_toList] at e
  unfold PySem.W.lookIn
  rw [hd]
  dsimp only
  split
  · rename_i y q
    rw [q] at e
    exact congrArg some e
  · rename_i q
    rw [q] at e
    have a : es.toList.any (·.refKey) = false := by
      rw [List.any_eq_false]
      intro y hy
      obtain ⟨z, t, hkey⟩ := hk y (Array.mem_toList_iff.mp hy)
      simp [DictEntry.refKey, hkey]
    have a' : ¬ es.toList.any (·.refKey) = true := by rw [a]; exact Bool.false_ne_true
    rw [if_neg a']
    exact congrArg some e
theorem ObjM.look {h : Heap} {x dx C : Addr} {mA : Str → Option Value} (I : ObjM h x dx C mA) : ∃ od, PySem.W.InstAt h x (PySem.W.instObj C dx) C (some od) ∧ ∀ name, PySem.W.lookIn name od = some (mA name) :=
  let ⟨od, ho, hl⟩ := lookIn_ns I.ns
  ⟨od, ⟨I.obj, rfl, rfl, ho⟩, hl⟩
section
variable {prog : Program} {w : World} {A : Around} {E : Value → Shared → Prop} {s : Shared} {K : PySem.W.Frag} {x dx C f : Addr} {mA : Str → Option Value} {name : Str} {v : Value}
theorem get_map {expr : Bool} {Q : Value → Shared → Prop} (X : K.In s.heap) (I : ObjM s.heap x dx C mA) (hg : PySem.W.plainGet K C name = true) (hh : PySem.W.hasDictIn K C = true)
    (ha : PySem.W.findIn K (.ref C) name = some none) (hv : mA name = some v) (hv' : PySem.W.handedIn v = true) (h : Q v { s with toks := s.toks + 1 }) :
    wpAny (model prog w) A (getAttr (.ref x) name expr) Q E s := by
  obtain ⟨od, J, hl⟩ := I.look
  exact PySem.W.get_value X J (PySem.W.plainGet_of hg).1 (PySem.W.findObj_own hh ha rfl (by rw [hl, hv])) hv' h
theorem get_meth {pl : Sem Bool} {Q : Value × List Value → Shared → Prop} (X : K.In s.heap) (I : ObjM s.heap x dx C mA) (hg : PySem.W.plainGet K C name = true)
    (hf : PySem.W.findIn K (.ref C) name = some (some (.ref f))) (ht : PySem.W.isFn K (.ref f) = true) (hv : mA name = none) (h : Q (.ref f, [.ref x]) s) :
    wpAny (model prog w) A (getMethod (.ref x) name pl) Q E s := by
  obtain ⟨od, J, hl⟩ := I.look
  exact PySem.W.method_fn X J (PySem.W.plainGet_of hg).1 (PySem.W.plainGet_of hg).2 hf (beq_iff_eq.mp ht) (by show (PySem.W.lookIn name od).map (·.isSome) = some false; rw [hl, hv]; rfl) h
theorem set_map {ns : List Str} {Q : Unit → Shared → Prop} (X : K.In s.heap) (I : ObjM s.heap x dx C mA)
    (hs : PySem.W.findIn K (.ref C) "__setattr__" = some (some (.builtin "object.__setattr__"))) (hp : PySem.W.plainOver K C = true) (ht : PySem.W.takerIn K C name = some none) (hh : PySem.W.hasDictIn K C = true)
    (hw : PySem.Within mA ns) (hsz : ns.length ≤ sizeLine)
    (h : ∀ h', ObjM h' x dx C (fun y => if y = name then some v else mA y) → Heap.SameBut dx s.heap h' → Q () { s with heap := h', toks := s.toks + 2 }) :
    wpAny (model prog w) A (setAttr (.ref x) name v) Q E s := by
  obtain ⟨od, J, hl⟩ := I.look
  refine PySem.W.set_plain X J hs (PySem.W.osa_open (s := { s with toks := s.toks + 1 }) (r := none) X J hp ht fun b => ?_)
  obtain ⟨cd, hc, hd'⟩ := PySem.W.any_some hh
  have hx : s.heap.get? x = some ⟨.ref C, some dx, .plain, #[]⟩ := I.obj
  refine wpAny_bind (wpAny_pure (wpAny_bind (wpAny_bind (wpAny_loadPart hx (wpAny_bind (PySem.W.Looks.here (s := { s with toks := s.toks + 1 }) (PySem.W.looks_clsIn X hc) ?_))))))
  rw [hd']
  refine wpAny_pure (a := some dx) (wpAny_bind (wpAny_pure (wpAny_bind ?_)))
  refine wpAny_nsSet1 (s := { s with toks := s.toks + 1 }) I.ns fun h' hn2 hs2 => ?_
  obtain ⟨oD, esD, epD, hoD, hdD, hcD⟩ := hn2.count (PySem.Within.cons name v hw)
  refine wpAny_bind (wpAny_lookBehind hoD (by rw [hdD]; exact pastItsLine_dict (Nat.le_trans hcD (by rw [List.length_cons]; omega))) ?_)
  exact wpAny_pure (h _ ⟨(hs2.2 _ (Ne.symm I.ne)).trans I.obj, hn2, I.ne⟩ hs2)
theorem make_map {R : Result → Shared → Prop} {vs : List Value} {kw : List (Str × Value)} (X : K.In s.heap) (hm : PySem.W.makesIn K C = true)
    (hi : PySem.W.findIn K (.ref C) "__init__" = some (some (.ref f))) (hf : PySem.W.typeIn K (.ref f) = some (.type "function"))
    (h : codeAny (model prog w) (A.under (.builtin "type.__call__" ⟨.ref C :: vs, kw⟩)) (.call (.ref f) ⟨.ref (s.heap.objs.size + 1) :: vs, kw⟩) (PySem.W.InitBack (s.heap.objs.size + 1) R)
      { s with heap := (s.heap.push PySem.W.emptyDict).push (PySem.W.instObj C s.heap.objs.size) }) :
    codeAny (model prog w) A (.call (.ref C) ⟨vs, kw⟩) R s := by
  obtain ⟨hh, g, d, t, os⟩ := s
  exact PySem.W.make_core (PySem.W.makes_of X hm) (PySem.W.looks_findIn X hi) (fun self => PySem.W.bind_fn X self hf) (.inl rfl) h
end
def putF (f : Str) (v : V) : List (Str × V) → List (Str × V)
  | [] => [(f, v)]
  | (g, x) :: r => if g = f then (g, v) :: r else (g, x) :: putF f v r
theorem lookup_putF (f g : Str) (v : V) : ∀ fs : List (Str × V), (putF f v fs).lookup g = if g = f then some v else fs.lookup g
  | [] => by
    show List.lookup g [(f, v)] = _
    by_cases h : g = f
    · have hb : (g == f) = true := beq_iff_eq.mpr h
      simp only [List.lookup, hb, if_pos h]
    · have hb : (g == f) = false := beq_eq_false_iff_ne.mpr h
      simp only [List.lookup, hb, if_neg h]
  | (k, x) :: r => by
    have ih := lookup_putF f g v r
    rw [show putF f v ((k, x) :: r) = (if k = f then (k, v) :: r else (k, x) :: putF f v r) from rfl]
    by_cases hk : k = f
    · rw [if_pos hk]
      by_cases h : g = k
      · have hb : (g == k) = true := beq_iff_eq.mpr h
        simp only [List.lookup, hb, if_pos (h.trans hk)]
      · have hb : (g == k) = false := beq_eq_false_iff_ne.mpr h
        simp only [List.lookup, hb, if_neg (fun e : g = f => h (e.trans hk.symm))]
    · rw [if_neg hk]
      by_cases h : g = k
      · have hb : (g == k) = true := beq_iff_eq.mpr h
        simp only [List.lookup, hb, if_neg (fun e : g = f => hk (h.symm.trans e))]
      · have hb : (g == k) = false := beq_eq_false_iff_ne.mpr h
        simp only [List.lookup, hb]
        exact ih
theorem keys_putF (f : Str) (v : V) : ∀ fs : List (Str × V), f ∈ (putF f v fs).map (·.1) ∧ ∀ g, g ∈ fs.map (·.1) → g ∈ (putF f v fs).map (·.1)
  | [] => ⟨by simp [putF], fun g h => by simp at h⟩
  | (k, x) :: r => by
    obtain ⟨i1, i2⟩ := keys_putF f v r
    rw [show putF f v ((k, x) :: r) = (if k = f then (k, v) :: r else (k, x) :: putF f v r) from rfl]
    by_cases hk : k = f
    · rw [if_pos hk]
      subst hk
      exact ⟨by simp, fun g h => by simpa using h⟩
    · rw [if_neg hk]
      refine ⟨?_, fun g h => ?_⟩
      · rw [List.map_cons]
        exact List.mem_cons_of_mem _ i1
      · rw [List.map_cons] at h ⊢
        rcases List.mem_cons.mp h with e | e
        · exact List.mem_cons.mpr (.inl e)
        · exact List.mem_cons_of_mem _ (i2 g e)
theorem length_putF (f : Str) (v : V) : ∀ fs : List (Str × V), (putF f v fs).length ≤ fs.length + 1
  | [] => by simp [putF]
  | (k, x) :: r => by
    have ih := length_putF f v r
    rw [show putF f v ((k, x) :: r) = (if k = f then (k, v) :: r else (k, x) :: putF f v r) from rfl]
    by_cases hk : k = f
    · rw [if_pos hk, List.length_cons, List.length_cons]; omega
    · rw [if_neg hk, List.length_cons, List.length_cons]; omega
theorem RelO.some_of {v : V} {o : Option Value} (r : RelO (some v) o) : ∃ u, o = some u ∧ RelV v u := by
  cases o with
  | none => exact (show False from r).elim
  | some u => exact ⟨u, rfl, r⟩
theorem RelO.none_of {o : Option Value} (r : RelO none o) : o = none := by
  cases o with
  | none => rfl
  | some u => exact (show False from r).elim
theorem handed_of {v : V} {u : Value} (r : RelV v u) : PySem.W.handedIn u = true := by
  cases v with
  | non => cases (show u = Value.none from r); rfl
  | bl b => cases (show u = Value.bool b from r); rfl
  | int i => obtain ⟨t, e⟩ := (show ∃ t, u = Value.int i t from r); cases e; rfl
  | str x => obtain ⟨t, e⟩ := (show ∃ t, u = Value.str x t from r); cases e; rfl
  | byt b => obtain ⟨t, e⟩ := (show ∃ t, u = Value.bytes b t from r); cases e; rfl
  | flt b => obtain ⟨t, e⟩ := (show ∃ t, u = Value.float b t from r); cases e; rfl
  | ref a => cases (show u = Value.ref a from r); rfl
  | ty n => cases (show u = Value.type n from r); rfl
section
variable {P : Program} {w : World} {H H' : Hp} {h h' : Heap} {a C dx : Addr} {fs fs' : List (Str × V)}
theorem ins_get (hok : HOk P w H h) (e : H a = some (.ins C dx fs)) : ∃ mA, ObjM h a dx C mA ∧ (∀ f, RelO (fs.lookup f) (mA f)) ∧ PySem.Within mA (fs.map (·.1)) ∧ fs.length ≤ 1000 ∧ H dx = some (.own a) := by
  obtain ⟨d, z, ne, ob, mA, n, r, q⟩ := (show ObjOk P w H h a (.ins C dx fs) from hok a _ e)
  exact ⟨mA, ⟨ob, n, ne⟩, r, q, z, d⟩
end
structure Cls (K : PySem.W.Frag) (C : Addr) : Prop where
  pg : PySem.W.plainGet K C Str.empty = true
  hd : PySem.W.hasDictIn K C = true
  po : PySem.W.plainOver K C = true
  sa : PySem.W.findIn K (.ref C) "__setattr__" = some (some (.builtin "object.__setattr__"))
theorem Cls.get {K : PySem.W.Frag} {C : Addr} (c : Cls K C) (f : Str) : PySem.W.plainGet K C f = true := c.pg
def NoAttr (K : PySem.W.Frag) (C : Addr) (f : Str) : Prop := PySem.W.findIn K (.ref C) f = some none
theorem NoAttr.taker {K : PySem.W.Frag} {C : Addr} {f : Str} (n : NoAttr K C f) : PySem.W.takerIn K C f = some none := by
  unfold PySem.W.takerIn
  rw [show PySem.W.findIn K (.ref C) f = some none from n]
  rfl
structure Meth (K : PySem.W.Frag) (C : Addr) (m : Str) (f : Addr) : Prop where
  at_ : PySem.W.findIn K (.ref C) m = some (some (.ref f))
  fn : PySem.W.isFn K (.ref f) = true
  kp : PySem.W.keepIn K (.ref f) = true
section
variable {X : Cx} {pins : List (Addr × Obj)} {σ : St} {H : Hp} {s : Shared} {a C dx : Addr} {fs : List (Str × V)} {f : Str} {v : V} {A : Around} {E : Value → Shared → Prop}
theorem getattr_ok {b : Bool} {Q : Value → Shared → Prop} (I : Inv X pins σ H s) (e : H a = some (.ins C dx fs)) (c : Cls X.K C) (n : NoAttr X.K C f) (l : fs.lookup f = some v)
    (h : ∀ u s', Inv X pins σ H s' → RelV v u → Q u s') : wpAny (model X.prog X.w) A (getAttr (.ref a) f b) Q E s := by
  obtain ⟨mA, O, r, _, _, _⟩ := ins_get I.hok e
  obtain ⟨u, hu, ru⟩ := RelO.some_of (v := v) (o := mA f) (by rw [← l]; exact r f)
  exact get_map I.kIn O (c.get f) c.hd n hu (handed_of ru) (h u _ (I.tok _) ru)
theorem getmeth_ok {m : Str} {g : Addr} {pl : Sem Bool} {Q : Value × List Value → Shared → Prop} (I : Inv X pins σ H s) (e : H a = some (.ins C dx fs)) (c : Cls X.K C) (k : Meth X.K C m g) (l : fs.lookup m = none)
    (h : Q (.ref g, [.ref a]) s) : wpAny (model X.prog X.w) A (getMethod (.ref a) m pl) Q E s := by
  obtain ⟨mA, O, r, _, _, _⟩ := ins_get I.hok e
  have hn : mA m = none := RelO.none_of (by rw [← l]; exact r m)
  exact get_meth I.kIn O (c.get m) k.at_ k.fn hn h
theorem setattr_ok {y : V} {u : Value} {Q : Unit → Shared → Prop} (I : Inv X pins σ H s) (e : H a = some (.ins C dx fs)) (c : Cls X.K C) (n : NoAttr X.K C f) (hl : fs.length < 1000) (ry : RelV y u)
    (h : ∀ s', Inv X pins σ (upd H a (.ins C dx (putF f y fs))) s' → Q () s') : wpAny (model X.prog X.w) A (setAttr (.ref a) f u) Q E s := by
  obtain ⟨mA, O, r, wi, _, ho⟩ := ins_get I.hok e
  have hz : (fs.map (·.1)).length ≤ sizeLine := by rw [List.length_map, sizeLine_eq]; omega
  refine set_map I.kIn O c.sa c.po n.taker c.hd wi hz fun h' O' sb => h _ ?_
  have hd : ∃ o, h'.get? dx = some o := let ⟨o, _, _, e', _⟩ := O'.ns; ⟨o, e'⟩
  refine I.write (x := a) (e := dx) (by rw [e]; exact True.intro) (.inr ho) (fun b q hb z => (sb.2 b hb).trans z) hd ?_
  refine ⟨by rw [upd_ne O.ne]; exact ho, ?_, O.ne, O'.obj, _, O'.ns, fun g => ?_, fun g hg => ?_⟩
  · have := length_putF f y fs; omega
  · show RelO ((putF f y fs).lookup g) (if g = f then some u else mA g)
    rw [lookup_putF]
    by_cases q : g = f
    · rw [if_pos q, if_pos q]; exact ry
    · rw [if_neg q, if_neg q]; exact r g
  · by_cases q : g = f
    · rw [q]; exact (keys_putF f y fs).1
    · refine (keys_putF f y fs).2 g (wi g fun z => hg ?_)
      show (if g = f then some u else mA g) = none
      rw [if_neg q]; exact z
theorem Inv.made (I : Inv X pins σ H s) : Inv X pins σ (upd (upd H s.heap.objs.size (.own (s.heap.objs.size + 1))) (s.heap.objs.size + 1) (.ins C s.heap.objs.size []))
    { s with heap := (s.heap.push PySem.W.emptyDict).push (PySem.W.instObj C s.heap.objs.size) } := by
  have e1 : (s.heap.push PySem.W.emptyDict).get? s.heap.objs.size = some PySem.W.emptyDict := Heap.get?_push_size s.heap rfl
  have e2 : ((s.heap.push PySem.W.emptyDict).push (PySem.W.instObj C s.heap.objs.size)).get? (s.heap.objs.size + 1) = some (PySem.W.instObj C s.heap.objs.size) := by
    have := Heap.get?_push_size (s.heap.push PySem.W.emptyDict) (o := PySem.W.instObj C s.heap.objs.size) rfl
    rwa [Heap.size_push] at this
  have e3 : (s.heap.push PySem.W.emptyDict).Ns s.heap.objs.size (fun _ => none) := ⟨PySem.W.emptyDict, #[], _, e1, rfl, (fun e he => absurd he (by simp)), fun _ => rfl⟩
  have I1 := I.laid (a := s.heap.objs.size) (o := .own (s.heap.objs.size + 1)) (h' := s.heap.push PySem.W.emptyDict) (t' := s.toks) (fun b u q => Heap.get?_push_of_some _ q) (Nat.le_refl _) ⟨_, e1⟩
  refine I1.laid (a := s.heap.objs.size + 1) (o := .ins C s.heap.objs.size []) (t' := s.toks) (fun b u q => Heap.get?_push_of_some _ q) (Nat.le_of_eq (Heap.size_push _ _)) ?_
  have ne : s.heap.objs.size ≠ s.heap.objs.size + 1 := Nat.ne_of_lt (Nat.lt_succ_self _)
  refine ⟨by rw [upd_ne ne, upd_same], Nat.zero_le _, ne, e2, fun _ => none, (Heap.Ns1.of_empty e3).at fun o q => Heap.get?_push_of_some _ q, fun _ => True.intro, fun y hy => absurd rfl hy⟩
theorem attr_of {prog : Program} {w : World} {env : Env} {e : Expr} {f : Str} {pos : Pos} {s : Shared} {Q : Value → Shared → Prop} (hb : attributeBase e f env (eval e env) = eval e env)
    (h : wpAny (model prog w) A (eval e env) (fun o s₁ => wpAny (model prog w) A (getAttr o f true) Q E s₁) E s) : wpAny (model prog w) A (eval (.Attribute e f pos) env) Q E s :=
  Attribute_any_ h (by rw [arm_eval_Attribute, hb])
end
def tFld (K : PySem.W.Frag) (ta : TE) (f : Str) : TE := fun σ H Q => ta σ H fun x H1 => ∃ a C dx fs v, x = .ref a ∧ H1 a = some (.ins C dx fs) ∧ Cls K C ∧ NoAttr K C f ∧ fs.lookup f = some v ∧ Q v H1
def sFld (K : PySem.W.Frag) (ta tv : TE) (f : Str) : TS := fun D σ H => tv σ H fun y H1 => ta σ H1 fun x H2 => ∃ a C dx fs, x = .ref a ∧ H2 a = some (.ins C dx fs) ∧ Cls K C ∧ NoAttr K C f ∧ fs.length < 1000 ∧
  D.nx σ (upd H2 a (.ins C dx (putF f y fs)))
section
variable {X : Cx} {o e value : Expr} {f : Str} {pos pos' tpos : Pos} {ta tv : TE}
theorem pe_fld (he : PE X e ta) (hb : attributeBase e f X.env (eval e X.env) = eval e X.env) : PE X (.Attribute e f pos) (tFld X.K ta f) := by
  intro pins s σ H Q I h
  refine attr_of hb (thn (he pins s σ H _ I h) fun u s1 ⟨x, H1, I1, rx, a, C, dx, fs, v, ex, ea, c, n, l, q⟩ => ?_)
  subst ex
  obtain rfl : u = Value.ref a := rx
  exact getattr_ok I1 ea c n l fun u' s2 I2 ru => ⟨v, H1, I2, ru, q⟩
theorem ps_fld (ha : PE X o ta) (hv : PE X value tv) (hs : swapsWith value (some (.Attribute o f pos')) pos.line X.env = pure false) : PS X (.Assign [.Attribute o f pos'] value pos) (sFld X.K ta tv f) := by
  intro pins s σ H D I h
  refine plainObj_wpAny_Assign_Attribute (thn (hv pins s σ H _ I h) fun u s1 ⟨y, H1, I1, ry, q⟩ => thn (ha pins s1 σ H1 _ I1 q) fun ov s2 ⟨x, H2, I2, rx, a, C, dx, fs, ex, ea, c, n, l, q2⟩ => ?_) hs
  subst ex
  obtain rfl : ov = Value.ref a := rx
  exact setattr_ok I2 ea c n l ry fun s3 I3 => ⟨σ, _, I3, q2⟩
end
section
variable {X : Cx} {pins : List (Addr × Obj)} {σ : St} {H : Hp} {s : Shared} {A : Around} {E : Value → Shared → Prop} {Q : Value → Shared → Prop} {c : Value} {b : Bool}
inductive TyOf (K : PySem.W.Frag) (H : Hp) : V → Value → Prop where
  | non : TyOf K H .non (.type "NoneType")
  | bl (x : Bool) : TyOf K H (.bl x) (.type "bool")
  | int (i : Int) : TyOf K H (.int i) (.type "int")
  | str (x : Str) : TyOf K H (.str x) (.type "str")
  | flt (x : UInt64) : TyOf K H (.flt x) (.type "float")
  | lst {a : Addr} {xs : List V} (e : H a = some (.lst xs)) : TyOf K H (.ref a) (.type "list")
  | frz {a : Addr} {o : Obj} {xs : List V} (e : H a = some (.frz o (.lst xs))) : TyOf K H (.ref a) (.type "list")
  | tup {a : Addr} {xs : List V} (e : H a = some (.tup xs)) : TyOf K H (.ref a) (.type "tuple")
  | dK {a : Addr} {kvs : List (Key × V)} (e : H a = some (.dK kvs)) : TyOf K H (.ref a) (.type "dict")
  | dT {a : Addr} {kvs : List (List Key × V)} (e : H a = some (.dT kvs)) : TyOf K H (.ref a) (.type "dict")
  | ins {a C dx : Addr} {fs : List (Str × V)} (e : H a = some (.ins C dx fs)) (cl : Cls K C) (ha : PySem.W.findIn K (.ref C) "__class__" = some (some (.builtin "object.__class__")))
      (hn : PySem.W.specialIn K (.builtin "object.__class__") "__get__" = some (some (.builtin "getset_descriptor.__get__"))) (htk : PySem.W.takesIn K (.builtin "object.__class__") = some true)
      (hm : PySem.W.mroIn K C (.type "object") = some true) : TyOf K H (.ref a) (.ref C)
theorem isinst_ok {x : V} {u t : Value} (I : Inv X pins σ H s) (rx : RelV x u) (ty : TyOf X.K H x t) (e : PySem.W.kitOne X.K t c = some b) (h : ∀ tk, Q (.bool b) { s with toks := tk }) :
    wpAny (model X.prog X.w) A (call (.builtin "isinstance") [u, c]) Q E s := by
  cases ty with
  | non => cases (show u = Value.none from rx); exact PySem.W.kia_one PySem.W.kitx_none I.kIn True.intro e (fun z => nomatch z) h
  | bl y => cases (show u = Value.bool y from rx); exact PySem.W.kia_one PySem.W.kitx_bool I.kIn True.intro e (fun z => nomatch z) h
  | int i => obtain ⟨t, q⟩ := (show ∃ t, u = Value.int i t from rx); cases q; exact PySem.W.kia_one PySem.W.kitx_int I.kIn True.intro e (fun z => nomatch z) h
  | str y => obtain ⟨t, q⟩ := (show ∃ t, u = Value.str y t from rx); cases q; exact PySem.W.kia_one PySem.W.kitx_str I.kIn True.intro e (fun z => nomatch z) h
  | flt y => obtain ⟨t, q⟩ := (show ∃ t, u = Value.float y t from rx); cases q; exact PySem.W.kia_one PySem.W.kitx_float I.kIn True.intro e (fun z => nomatch z) h
  | @lst a xs ea =>
    cases (show u = Value.ref a from rx)
    obtain ⟨_, _, n, _, h1⟩ := (show ObjOk X.prog X.w H s.heap a (.lst xs) from I.hok a _ ea)
    exact PySem.W.kia_one PySem.W.kitx_list I.kIn ⟨_, h1, rfl⟩ e (fun z => nomatch z) h
  | @frz a ob xs ea =>
    cases (show u = Value.ref a from rx)
    obtain ⟨_, _, _, n, _, h1⟩ := (show ObjOk X.prog X.w H s.heap a (.frz ob (.lst xs)) from I.hok a _ ea)
    exact PySem.W.kia_one PySem.W.kitx_list I.kIn ⟨_, h1, rfl⟩ e (fun z => nomatch z) h
  | @tup a xs ea =>
    cases (show u = Value.ref a from rx)
    obtain ⟨_, _, _, p⟩ := (show ObjOk X.prog X.w H s.heap a (.tup xs) from I.hok a _ ea)
    obtain ⟨o, h1, h2, _⟩ := p
    exact PySem.W.kia_one PySem.W.kitx_tuple I.kIn ⟨o, h1, h2⟩ e (fun z => nomatch z) h
  | @dK a kvs ea =>
    cases (show u = Value.ref a from rx)
    obtain ⟨_, _, vs, _, p⟩ := (show ObjOk X.prog X.w H s.heap a (.dK kvs) from I.hok a _ ea)
    obtain ⟨o, es, ep, h1, h2, _⟩ := p
    exact PySem.W.kia_one PySem.W.kitx_dict I.kIn ⟨o, h1, h2.1⟩ e (fun z => nomatch z) h
  | @dT a kvs ea =>
    cases (show u = Value.ref a from rx)
    obtain ⟨_, _, xs, _, o, es, ep, h1, h2, _⟩ := (show ObjOk X.prog X.w H s.heap a (.dT kvs) from I.hok a _ ea)
    exact PySem.W.kia_one PySem.W.kitx_dict I.kIn ⟨o, h1, h2.1⟩ e (fun z => nomatch z) h
  | @ins a C dx fs ea cl ha hn htk hm =>
    cases (show u = Value.ref a from rx)
    obtain ⟨mA, O, _⟩ := ins_get I.hok ea
    obtain ⟨od, J, _⟩ := O.look
    exact PySem.W.kia_one (PySem.W.kitx_own (cl.get _) cl.hd ha hn htk hm) I.kIn J e (fun z => nomatch z) h
end
end L2
namespace L2
open PySem PySem.Spec PyProof.Rows
structure Room (k : Nat) (A : Around) : Prop where
  hd : A.handled = none
  dp : A.depth + 3 * k + 5 < recursionLimit
  un : A.units + 16 * k + 200 < cLine
theorem Room.mono {j k : Nat} {A : Around} (r : Room k A) (h : j ≤ k) : Room j A := ⟨r.hd, by have := r.dp; omega, by have := r.un; omega⟩
theorem Room.deeper {k : Nat} {A : Around} (r : Room (k + 1) A) (env : Env) : Room k (A.deeper env) :=
  ⟨r.hd, by have := r.dp; show A.depth + 1 + 3 * k + 5 < _; omega, by have := r.un; show A.units + 3 + 16 * k + 200 < _; omega⟩
theorem make_depth {A : Around} {C : Addr} {us : List Value} {kw : List (Str × Value)} : (A.under (.builtin "type.__call__" ⟨.ref C :: us, kw⟩)).depth = A.depth + 1 := by
  first | rfl | simp [Around.under, Code.weight, Code.isCreation, Code.isGuard, Code.isCaller, Code.frames, Code.isFrame, guardIds]
theorem make_units {A : Around} {C : Addr} {us : List Value} {kw : List (Str × Value)} : (A.under (.builtin "type.__call__" ⟨.ref C :: us, kw⟩)).units = A.units + 1 := by
  first | rfl | simp [Around.under, Code.cUnits, Code.frames, Code.isFrame]
theorem Room.make {k : Nat} {A : Around} (r : Room (k + 1) A) (C : Addr) (us : List Value) (kw : List (Str × Value)) : Room k (A.under (.builtin "type.__call__" ⟨.ref C :: us, kw⟩)) :=
  ⟨r.hd, by have := r.dp; rw [make_depth]; omega, by have := r.un; rw [make_units]; omega⟩
theorem Room.depth {k : Nat} {A : Around} (r : Room k A) : A.depth < recursionLimit := by have := r.dp; omega
theorem Room.units {k : Nat} {A : Around} (r : Room k A) : A.units + 64 < cLine := by have := r.un; omega
theorem Room.units0 {k : Nat} {A : Around} (r : Room k A) : A.units < cLine := by have := r.un; omega
def tNil : TA := fun _ H Q => Q [] H
def tCons (ta : TE) (tr : TA) : TA := fun σ H Q => ta σ H fun x H1 => tr σ H1 fun xs H2 => Q (x :: xs) H2
section
variable {X : Cx} {e : Expr} {es : List Expr} {te : TE} {t : TA} {pos : Pos}
theorem pa_nil : PA X [] tNil := fun _ _ _ _ H Q I h => Calls.spliced_nil ⟨[], H, I, .nil, h⟩
theorem pa_cons (ha : PE X e te) (hr : PA X es t) (hs : starEach (e :: es) X.env = (false, eval e X.env) :: starEach es X.env := by rfl) : PA X (e :: es) (tCons te t) := by
  intro pos pins s σ H Q I h
  rw [hs]
  show wpAny _ _ (spliced ((false, eval e X.env) :: backTo pos (starEach es X.env))) _ _ s
  refine Calls.spliced_cons (thn (ha pins s σ H _ I h) fun u s1 ⟨x, H1, I1, r1, q1⟩ => ?_)
  exact thn (hr pos pins s1 σ H1 _ I1 q1) fun us s2 ⟨xs, H2, I2, r2, q2⟩ => ⟨x :: xs, H2, I2, .cons r1 r2, q2⟩
def tTup (t : TA) : TE := fun σ H Q => t σ H fun xs H1 => xs.length ≤ sizeLine ∧ ∀ p, H1 p = none → Q (.ref p) (upd H1 p (.tup xs))
def tLst (t : TA) : TE := fun σ H Q => t σ H fun xs H1 => xs.length ≤ sizeLine ∧ ∀ p, H1 p = none → Q (.ref p) (upd H1 p (.lst xs))
theorem pe_tup {x1} (h : PA X es t) : PE X (.Tuple es x1 pos) (tTup t) := by
  intro pins s σ H Q I hq
  refine wpAny_Tuple_spliced (thn (h pos pins s σ H _ I hq) fun us s1 ⟨xs, H1, I1, r, z, q⟩ => ⟨by rw [← r.length]; exact z, ?_⟩)
  have hf : H1 s1.heap.objs.size = none := I1.hok.fresh (Nat.le_refl _)
  refine ⟨.ref s1.heap.objs.size, upd H1 s1.heap.objs.size (.tup xs), I1.laid (t' := s1.toks) (fun b u e => Heap.get?_push_of_some _ e) (Nat.le_refl _) ?_, rfl, q _ hf⟩
  exact ⟨z, us, r, ⟨_, Heap.get?_push_size _ rfl, rfl, _, rfl⟩⟩
theorem pe_lst (h : PA X es t) : PE X (.List es pos) (tLst t) := by
  intro pins s σ H Q I hq
  refine wpAny_List_spliced (thn (h pos pins s σ H _ I hq) fun us s1 ⟨xs, H1, I1, r, z, q⟩ => ⟨by rw [← r.length]; exact z, ?_⟩)
  have hf : H1 s1.heap.objs.size = none := I1.hok.fresh (Nat.le_refl _)
  refine ⟨.ref s1.heap.objs.size, upd H1 s1.heap.objs.size (.lst xs), I1.laid (t' := s1.toks) (fun b u e => Heap.get?_push_of_some _ e) (Nat.le_refl _) ?_, rfl, q _ hf⟩
  exact ⟨z, us, 0, r, Heap.get?_push_size _ rfl⟩
end
abbrev Sp := List V → Hp → VK → XK → Prop
abbrev CXT := List Env → Hp → Shared → XK → Value → Shared → Prop
structure Env0 (P : Program) (w : World) (K : PySem.W.Frag) (mg : Str → Option Value) (base : Heap) (A : Around) (outer : List Env) (s : Shared) (H : Hp) : Prop where
  frames : A.frames = some outer
  mod : Mod K mg base
  bs : ∀ b o, base.get? b = some o → s.heap.get? b = some o ∧ H b = none
  bsz : base.objs.size ≤ s.heap.objs.size
  funs : s.heap.FunFrames base outer
  frf : ∀ b ∈ frs outer, H b = none
  hok : HOk P w H s.heap
  bare : AllBare s.gens
def CE (outer : List Env) (P : Program) (w : World) (H : Hp) (s : Shared) (Q : VK) (u : Value) (s' : Shared) : Prop :=
  ∃ v H', s'.os = s.os ∧ AllBare s'.gens ∧ Un (frs outer) [] H H' s.heap s'.heap ∧ HOk P w H' s'.heap ∧ RelV v u ∧ Q v H'
def CR (CX : CXT) (outer : List Env) (P : Program) (w : World) (H : Hp) (s : Shared) (Q : VK) (E : XK) (r : Result) (s' : Shared) : Prop :=
  match r with
  | .ok (.ret u) => CE outer P w H s Q u s'
  | .ok _ => False
  | .error e => CX outer H s E e s'
structure FnOk (P : Program) (w : World) (K : PySem.W.Frag) (mg : Str → Option Value) (base : Heap) (CX : CXT) (k : Nat) (f : Addr) (fd : FuncData) (ps : List Str) (sp : Sp) : Prop where
  len : ∀ vs H Q E, sp vs H Q E → vs.length = ps.length
  run : ∀ (A : Around) (outer : List Env) (s : Shared) (H : Hp) (args : Args) (us : List Value) (vs : List V) (Q : VK) (E : XK), Room k A → Env0 P w K mg base A outer s H → BindsTo s fd args (ps.zip us) → Vals vs us → sp vs H Q E →
    codeAny (model P w) A (.call (.ref f) args) (CR CX outer P w H s Q E) s
theorem Env0.make {P : Program} {w : World} {K : PySem.W.Frag} {mg : Str → Option Value} {base : Heap} {A : Around} {outer : List Env} {s : Shared} {H : Hp} (e : Env0 P w K mg base A outer s H) (C : Addr) (us : List Value) (kw : List (Str × Value)) :
    Env0 P w K mg base (A.under (.builtin "type.__call__" ⟨.ref C :: us, kw⟩)) outer s H := ⟨by first | exact e.frames | (simpa [Around.under, Code.envs, Code.isFrame, pushEnvs] using e.frames), e.mod, e.bs, e.bsz, e.funs, e.frf, e.hok, e.bare⟩
section
variable {X : Cx} {pins : List (Addr × Obj)} {σ : St} {H : Hp} {s s' : Shared}
theorem Inv.env0 (I : Inv X pins σ H s) : Env0 X.prog X.w X.K X.mg X.base X.A X.stack s H :=
  ⟨I.ok.frames, I.ok.mod, I.bs, Nat.le_trans I.ok.bsz I.sz, I.stack, I.stkFree, I.hok, I.bare⟩
theorem Inv.after {Q : VK} {u : Value} (I : Inv X pins σ H s) (h : CE X.stack X.prog X.w H s Q u s') : EP X pins σ Q u s' := by
  obtain ⟨v, H', os, bare, un, hok, r, q⟩ := h
  obtain ⟨hh, g, d, t, os'⟩ := s'
  obtain rfl : os' = s.os := os
  exact ⟨v, H', I.call (h' := hh) (g' := g) (d' := d) (t' := t) (ch := []) un hok bare (fun b z => absurd z (by simp)), r, q⟩
end
def tCall (sp : Sp) (dvs : List V) (E : XK) (t : TA) : TE := fun σ H Q => t σ H fun vs H1 => sp (vs ++ dvs) H1 Q E
def tMake (C : Addr) (sp : Sp) (dvs : List V) (E : XK) (t : TA) : TE := fun σ H Q => t σ H fun vs H1 => ∀ x dx, H1 x = none → H1 dx = none → dx ≠ x →
  sp (.ref x :: (vs ++ dvs)) (upd (upd H1 dx (.own x)) x (.ins C dx [])) (fun v H2 => v = .non ∧ Q (.ref x) H2) E
def Binds (K : PySem.W.Frag) (fd : FuncData) (ps : List Str) (ds : List Value) : Prop :=
  ∀ (s : Shared) (us : List Value), K.In s.heap → (us ++ ds).length = ps.length → BindsTo s fd ⟨us, []⟩ (ps.zip (us ++ ds))
theorem Binds.all {K : PySem.W.Frag} {fd : FuncData} {ps : List Str} (h : ∀ us : List Value, us.length = ps.length → bindArgs fd ⟨us, []⟩ = pure (ps.zip us)) : Binds K fd ps [] := fun s us _ hl => by
  rw [List.append_nil] at hl ⊢
  exact .of_eq (h us hl)
def Passes (CX : CXT) (X : Cx) (E : XK) : Prop := ∀ (pins : List (Addr × Obj)) (σ : St) (H : Hp) (s : Shared) (e : Value) (s' : Shared), Inv X pins σ H s → CX X.stack H s E e s' → X.xe e s'
section
variable {X : Cx} {CX : CXT} {k : Nat} {f C : Addr} {fd : FuncData} {ps : List Str} {sp : Sp} {dvs : List V} {ds : List Value} {E : XK} {x m : Str} {p pos apos : Pos} {e o : Expr} {es : List Expr} {ta : TE} {t : TA}
theorem run_fn {pins : List (Addr × Obj)} {σ : St} {H : Hp} {s : Shared} {Q : VK} {us : List Value} {vs : List V} (F : FnOk X.prog X.w X.K X.mg X.base CX k f fd ps sp) (hr : Room k X.A) (hb : Binds X.K fd ps ds) (hd : Vals dvs ds) (hx : Passes CX X E)
    (I : Inv X pins σ H s) (r : Vals vs us) (h : sp (vs ++ dvs) H Q E) : wpAny (model X.prog X.w) X.A (call (.ref f) us) (EP X pins σ Q) X.xe s := by
  have r2 : Vals (vs ++ dvs) (us ++ ds) := r.append hd
  have hl : (us ++ ds).length = ps.length := by rw [← r2.length]; exact F.len _ _ _ _ h
  refine wpAny_call (codeAny_mono (F.run X.A X.stack s H ⟨us, []⟩ (us ++ ds) (vs ++ dvs) Q E hr I.env0 (hb s us I.kIn hl) r2 h) fun r s' hq => ?_)
  cases r with
  | error e => exact hx pins σ H s e s' I hq
  | ok fl =>
    cases fl with
    | ret u => exact I.after hq
    | next => exact False.elim hq
    | brk => exact False.elim hq
    | cont => exact False.elim hq
theorem pe_call (F : FnOk X.prog X.w X.K X.mg X.base CX k f fd ps sp) (hr : Room k X.A) (hg : Gl X x) (hm : X.mg x = some (.ref f)) (hk : PySem.W.keepIn X.K (.ref f) = true) (hb : Binds X.K fd ps ds) (hd : Vals dvs ds) (hx : Passes CX X E)
    (ha : PA X (e :: es) t) (hdb : (x == ("__debug__" : Str)) = false := by decide) (he : starEach (e :: es) X.env = (false, eval e X.env) :: starEach es X.env := by rfl) (hpl : (backTo pos (starEach es X.env)).any (·.1) = false := by rfl) :
    PE X (.Call (.Name x p) (e :: es) [] pos) (tCall sp dvs E t) := by
  intro pins s σ H Q I h
  refine wpAny_Call_Name_kw (ld_glob I hg hm ?_ hdb)
  refine PySem.W.callWith_K (h₀ := X.base) I.ok.mod.kin hk (thn (ha pos pins s σ H _ I h) fun us s1 ⟨vs, H1, I1, r, q⟩ => ⟨I1.kIn, ?_⟩) he hpl
  exact run_fn F hr hb hd hx I1 r q
structure Mk (K : PySem.W.Frag) (C f : Addr) : Prop where
  makes : PySem.W.makesIn K C = true
  init : PySem.W.findIn K (.ref C) "__init__" = some (some (.ref f))
  fn : PySem.W.isFn K (.ref f) = true
  kp : PySem.W.keepIn K (.ref C) = true
theorem run_make {pins : List (Addr × Obj)} {σ : St} {H : Hp} {s : Shared} {Q : VK} {us : List Value} {vs : List V} (M : Mk X.K C f) (F : FnOk X.prog X.w X.K X.mg X.base CX k f fd ps sp) (hr : Room (k + 1) X.A) (hb : Binds X.K fd ps ds) (hd : Vals dvs ds)
    (hx : Passes CX X E) (I : Inv X pins σ H s) (r : Vals vs us)
    (h : ∀ x dx, H x = none → H dx = none → dx ≠ x → sp (.ref x :: (vs ++ dvs)) (upd (upd H dx (.own x)) x (.ins C dx [])) (fun v H2 => v = .non ∧ Q (.ref x) H2) E) :
    wpAny (model X.prog X.w) X.A (call (.ref C) us) (EP X pins σ Q) X.xe s := by
  have hq := h (s.heap.objs.size + 1) s.heap.objs.size (I.hok.fresh (Nat.le_succ _)) (I.hok.fresh (Nat.le_refl _)) (Nat.ne_of_lt (Nat.lt_succ_self _))
  have I2 := Inv.made (C := C) I
  have r2 : Vals (V.ref (s.heap.objs.size + 1) :: (vs ++ dvs)) (Value.ref (s.heap.objs.size + 1) :: (us ++ ds)) := .cons rfl (r.append hd)
  have hl : (Value.ref (s.heap.objs.size + 1) :: us ++ ds).length = ps.length := by
    have e := r2.length
    rw [F.len _ _ _ _ hq] at e
    exact e.symm
  refine wpAny_call (make_map (f := f) I.kIn M.makes M.init (beq_iff_eq.mp M.fn) (codeAny_mono (F.run _ X.stack _ _ ⟨Value.ref (s.heap.objs.size + 1) :: us, []⟩ (Value.ref (s.heap.objs.size + 1) :: (us ++ ds)) _ _ E (hr.make C us [])
    (I2.env0.make C us []) (hb _ (Value.ref (s.heap.objs.size + 1) :: us) I2.kIn hl) r2 hq) fun r s' hq' => ?_))
  cases r with
  | error e => exact hx pins σ _ _ e s' I2 hq'
  | ok fl =>
    cases fl with
    | ret u =>
      obtain ⟨v, H', I3, rv, ev, q3⟩ := I2.after hq'
      subst ev
      exact ⟨rv, ⟨V.ref (s.heap.objs.size + 1), H', I3, rfl, q3⟩⟩
    | next => exact False.elim hq'
    | brk => exact False.elim hq'
    | cont => exact False.elim hq'
theorem pe_make (M : Mk X.K C f) (F : FnOk X.prog X.w X.K X.mg X.base CX k f fd ps sp) (hr : Room (k + 1) X.A) (hg : Gl X x) (hm : X.mg x = some (.ref C)) (hb : Binds X.K fd ps ds) (hd : Vals dvs ds) (hx : Passes CX X E)
    (ha : PA X (e :: es) t) (hdb : (x == ("__debug__" : Str)) = false := by decide) (he : starEach (e :: es) X.env = (false, eval e X.env) :: starEach es X.env := by rfl) (hpl : (backTo pos (starEach es X.env)).any (·.1) = false := by rfl) :
    PE X (.Call (.Name x p) (e :: es) [] pos) (tMake C sp dvs E t) := by
  intro pins s σ H Q I h
  refine wpAny_Call_Name_kw (ld_glob I hg hm ?_ hdb)
  refine PySem.W.callWith_K (h₀ := X.base) I.ok.mod.kin M.kp (thn (ha pos pins s σ H _ I h) fun us s1 ⟨vs, H1, I1, r, q⟩ => ⟨I1.kIn, ?_⟩) he hpl
  exact run_make M F hr hb hd hx I1 r q
end
section
variable {X : Cx} {CX : CXT} {k : Nat} {f C : Addr} {fd : FuncData} {ps ks : List Str} {sp : Sp} {E : XK} {x m : Str} {p pos apos kpos : Pos} {e o : Expr} {es : List Expr} {kws : List Keyword} {te ta : TE} {t tk : TA} {nm : Option Str}
variable {g : List Value → List Value → List Value} {gV : List V → List V → List V}
end
structure FnScope (N P : List Str) (sc : Scope) : Prop where
  kind : sc.kind = .function
  co : sc.isCoroutine = false
  gen : sc.isGenerator = false
  nd : N.Nodup
  pre : N.take P.length = P
  par : ∀ x ∈ P, sc.names.lookup x = some .local ∨ sc.names.lookup x = some .cell
  nofree : ∀ y ∈ sc.names, y.2 ≠ .free
theorem bindL_out {kindOf : Str → Option NameKind} {x : Str} : ∀ {binds : List (Str × Value)} {m : Str → Option Value}, (∀ v, (x, v) ∉ binds) → bindL kindOf binds m x = m x
  | [], _, _ => rfl
  | (n, v) :: r, m, h => by
    unfold bindL
    rw [bindL_out fun w hw => h w (List.mem_cons_of_mem _ hw)]
    split
    · have : x ≠ n := by rintro rfl; exact h v List.mem_cons_self
      simp [this]
    · rfl
theorem bindC_out {kindOf : Str → Option NameKind} {x : Str} : ∀ {binds : List (Str × Value)} {m : Str → Option Value}, (∀ v, (x, v) ∉ binds) → bindC kindOf binds m x = m x
  | [], _, _ => rfl
  | (n, v) :: r, m, h => by
    unfold bindC
    rw [bindC_out fun w hw => h w (List.mem_cons_of_mem _ hw)]
    split
    · rfl
    · have : x ≠ n := by rintro rfl; exact h v List.mem_cons_self
      simp [this]
theorem bindL_get {kindOf : Str → Option NameKind} {x : Str} {v : Value} : ∀ {P : List Str} {vs : List Value} {i : Nat} {m : Str → Option Value}, P.Nodup → P[i]? = some x → vs[i]? = some v → kindOf x = some .local →
    bindL kindOf (P.zip vs) m x = some v
  | [], _, _, _, _, h, _, _ => by simp at h
  | _ :: _, [], _, _, _, _, h, _ => by simp at h
  | p :: P, w :: vs, 0, m, nd, h1, h2, hk => by
    simp at h1 h2; subst h1; subst h2
    show bindL kindOf ((p, w) :: P.zip vs) m p = _
    unfold bindL
    rw [bindL_out fun v hv => (List.nodup_cons.mp nd).1 (List.of_mem_zip hv).1, if_pos hk]
    simp
  | p :: P, w :: vs, i + 1, m, nd, h1, h2, hk => by
    show bindL kindOf ((p, w) :: P.zip vs) m x = _
    unfold bindL
    exact bindL_get (i := i) (List.nodup_cons.mp nd).2 (by simpa using h1) (by simpa using h2) hk
theorem bindC_get {kindOf : Str → Option NameKind} {x : Str} {v : Value} : ∀ {P : List Str} {vs : List Value} {i : Nat} {m : Str → Option Value}, P.Nodup → P[i]? = some x → vs[i]? = some v → kindOf x ≠ some .local →
    bindC kindOf (P.zip vs) m x = some v
  | [], _, _, _, _, h, _, _ => by simp at h
  | _ :: _, [], _, _, _, _, h, _ => by simp at h
  | p :: P, w :: vs, 0, m, nd, h1, h2, hk => by
    simp at h1 h2; subst h1; subst h2
    show bindC kindOf ((p, w) :: P.zip vs) m p = _
    unfold bindC
    rw [bindC_out fun v hv => (List.nodup_cons.mp nd).1 (List.of_mem_zip hv).1, if_neg hk]
    simp
  | p :: P, w :: vs, i + 1, m, nd, h1, h2, hk => by
    show bindC kindOf ((p, w) :: P.zip vs) m x = _
    unfold bindC
    exact bindC_get (i := i) (List.nodup_cons.mp nd).2 (by simpa using h1) (by simpa using h2) hk
def start (N : List Str) (vs : List V) : St := vs.map some ++ List.replicate (N.length - vs.length) none
def cxOf (CX : CXT) (P : Program) (w : World) (K : PySem.W.Frag) (mg : Str → Option Value) (base : Heap) (N : List Str) (qual : Str) (scope : Scope) (f : Addr) (cd : Value) (A : Around) (outer : List Env) (s : Shared) (H : Hp) (E : XK) : Cx where
  prog := P
  w := w
  K := K
  mg := mg
  base := base
  A := A.deeper (envOfC qual scope s.heap.objs.size f cd)
  N := N
  s₀ := s
  H₀ := H
  env := envOfC qual scope s.heap.objs.size f cd
  outer := outer
  stack := envOfC qual scope s.heap.objs.size f cd :: outer
  ex := []
  calm := true
  fn := fun _ => true
  pn := []
  xe := fun e s' => wpAny (model P w) (A.deeper (envOfC qual scope s.heap.objs.size f cd)) (leaving (envOfC qual scope s.heap.objs.size f cd) e) (fun _ s'' => CX outer H s E e s'') (fun e' s'' => CX outer H s E e' s'') s'
theorem cell_has {sc : Scope} {n : Nat} {x : Str} (h : sc.names.lookup x = some .cell) : ∃ c, (cellsFrom n sc.names []).lookup x = some c := by
  have q := PySem.W.cellsFrom_some sc.names n [] (.inl h)
  exact Option.isSome_iff_exists.mp q
theorem inv_start {CX : CXT} {P : Program} {w : World} {K : PySem.W.Frag} {mg : Str → Option Value} {base : Heap} {N ps : List Str} {qual : Str} {scope : Scope} {f : Addr} {cd : Value} {A : Around} {outer : List Env} {s s1 : Shared} {H : Hp} {E : XK} {us : List Value} {vs : List V}
    (S : FnScope N ps scope) (hd : A.handled = none) (e0 : Env0 P w K mg base A outer s H) (hl : vs.length = ps.length) (r : Vals vs us)
    (x : InCallC s s.heap.objs.size (bindL (envOfC qual scope s.heap.objs.size f cd).kindOf (ps.zip us) fun _ => none) (cellsFrom (s.heap.objs.size + 1) scope.names []) (bindC (envOfC qual scope s.heap.objs.size f cd).kindOf (ps.zip us) fun _ => none) s1) :
    Inv (cxOf CX P w K mg base N qual scope f cd A outer s H E) [] (start N vs) H s1 := by
  have hpl : ps.length ≤ N.length := by have := congrArg List.length S.pre; rw [List.length_take] at this; omega
  obtain ⟨h1, tk, rfl, hk⟩ := x.done
  have noA : ∀ b : Addr, b ∉ (cxOf CX P w K mg base N qual scope f cd A outer s H E).ex := fun b z => absurd (show b ∈ ([] : List Addr) from z) (by simp)
  refine ⟨⟨e0.mod, S.kind, rfl, rfl, Nat.le_refl _, fun y z c h1 h2 => ?_, fun y hy => ?_, fun y c _ h => ?_, fun _ => hd, Around.frames_deeper e0.frames, .inr ⟨rfl, rfl⟩, fun b z => absurd z (noA b), e0.bs, e0.bsz, fun b _ _ => noA b, fun b z => absurd z (noA b), e0.funs, e0.frf⟩,
    rfl, e0.bare, Un.kept hk, ⟨_, x.toInCall.ns, fun i y v h1 h2 h3 => ?_⟩, fun y c h => ⟨_, x.cell y c h⟩, e0.hok.fresh (Nat.le_refl _), fun y c h => ?_, fun p hp => absurd (show p ∈ ([] : List (Addr × Obj)) from hp) (by simp), e0.hok.kept hk, ?_⟩
  · exact name_of_addr x.apart (PySem.mem_of_lookup h1) (PySem.mem_of_lookup h2)
  · have hy : scope.names.lookup y = some .cell ∨ scope.names.lookup y = some .free := hy
    rcases hy with hy | hy
    · exact cell_has hy
    · exact absurd rfl (S.nofree _ (PySem.mem_of_lookup hy))
  · exact Nat.le_of_lt (x.above y c (PySem.mem_of_lookup h))
  · have hi : i < vs.length := by
      unfold start at h2
      by_cases hi : i < vs.length
      · exact hi
      · rw [List.getElem?_append_right (by simpa using hi)] at h2
        rw [List.getElem?_replicate] at h2
        split at h2 <;> cases h2
    have ha : vs[i]? = some v := by
      unfold start at h2
      rw [List.getElem?_append_left (by simpa using hi), List.getElem?_map] at h2
      cases e : vs[i]? with
      | none => rw [e] at h2; cases h2
      | some a => rw [e] at h2; cases h2; rfl
    obtain ⟨u, hu, rv⟩ := r.get ha
    have hp : ps[i]? = some y := by
      rw [← S.pre, List.getElem?_take_of_lt (by omega)]; exact h1
    have ndP : ps.Nodup := by rw [← S.pre]; exact S.nd.sublist (List.take_sublist _ _)
    refine ⟨u, rv, ?_⟩
    rcases S.par y (List.mem_of_getElem? hp) with k | k
    · exact .inl ⟨k, bindL_get ndP hp hu k⟩
    · obtain ⟨c, e⟩ := cell_has (n := s.heap.objs.size + 1) k
      refine .inr ⟨.inl k, c, e, ?_⟩
      have q := x.cell y c e
      rw [bindC_get ndP hp hu (by show scope.names.lookup y ≠ _; rw [k]; decide)] at q
      exact q
  · exact e0.hok.fresh (Nat.le_of_lt (x.above y c (PySem.mem_of_lookup h)))
  · unfold start
    show _ = N.length
    rw [List.length_append, List.length_map, List.length_replicate]
    omega
theorem fn_of {CX : CXT} {P : Program} {w : World} {K : PySem.W.Frag} {mg : Str → Option Value} {base : Heap} {k : Nat} {f : Addr} {name qual : Str} {params : Arguments} {body : List Stmt} {scope : Scope} {dV kV doc pm cdv ct oc : Value} {an od : Option Addr}
    {osl : Array (Option Value)} {N ps : List Str} {sp : Sp} (lk : K.lookup f = some ⟨oc, od, .func (PySem.W.fnOf name qual params body scope dV kV doc pm an cdv ct), osl⟩) (hcd : PySem.W.codeIn K cdv qual = true) (S : FnScope N ps scope)
    (len : ∀ vs H Q E, sp vs H Q E → vs.length = ps.length)
    (hbody : ∀ (A : Around) (outer : List Env) (s : Shared) (H : Hp) (vs : List V) (Q : VK) (E : XK), Room k (A.deeper (envOfC qual scope s.heap.objs.size f cdv)) → sp vs H Q E →
      ∃ t, PSs (cxOf CX P w K mg base N qual scope f cdv A outer s H E) body t ∧ t { nx := fun _ H' => Q .non H', rt := Q } (start N vs) H) :
    FnOk P w K mg base CX (k + 1) f (PySem.W.fnOf name qual params body scope dV kV doc pm an cdv ct) ps sp := by
  refine ⟨len, fun A outer s H args us vs Q E hr e0 hb r hsp => ?_⟩
  have hl := len _ _ _ _ hsp
  have KX : K.In s.heap := e0.mod.kin.keeps fun b o e => (e0.bs b o e).1
  have lim : s.heap.NoLimit := e0.mod.nolimit.keeps fun b o e => (e0.bs b o e).1
  have hkind : ∀ y ∈ ps.zip us, scope.names.lookup y.1 = some .local ∨ (scope.names.lookup y.1 = some .cell ∧ ((cellsFrom (s.heap.objs.size + 1) scope.names []).lookup y.1).isSome = true) := fun ⟨n, v⟩ hy => by
    rcases S.par n (List.of_mem_zip hy).1 with q | q
    · exact .inl q
    · exact .inr ⟨q, PySem.W.cellsFrom_some _ _ _ (.inl q)⟩
  refine codeAny_call_function hr.depth (KX _ _ lk) rfl S.co S.gen rfl (PySem.W.codeRec_of KX hcd) (hb _ _ _ _ ?_)
  refine wpAny_newFunctionEnv_cells S.kind hkind fun env he s1 x => ?_
  subst he
  refine ⟨lim.keeps x.toInCall.keep, codeAny_func ?_⟩
  obtain ⟨t, ht, hq⟩ := hbody A outer s H vs Q E (hr.deeper _) hsp
  have I : Inv (cxOf CX P w K mg base N qual scope f cdv A outer s H E) [] (start N vs) H s1 := inv_start S hr.hd e0 hl r x
  refine wpAny_mono (ht [] s1 (start N vs) H _ I hq) (fun fl s' hs => ?_) fun e s' hs => hs
  have fin : ∀ {σ' : St} {H' : Hp} {v : V} {u : Value}, Inv (cxOf CX P w K mg base N qual scope f cdv A outer s H E) [] σ' H' s' → RelV v u → Q v H' → CE outer P w H s Q u s' :=
    fun {σ' H' v u} J rv q => ⟨v, H', J.os, J.bare, J.base, J.hok, rv, q⟩
  cases fl with
  | ret u =>
    obtain ⟨v, σ', H', J, rv, q⟩ := hs
    exact fin J rv q
  | next =>
    obtain ⟨σ', H', J, q⟩ := hs
    exact fin (v := V.non) (u := Value.none) J rfl q
  | brk =>
    obtain ⟨_, _, _, q⟩ := hs
    exact False.elim q
  | cont =>
    obtain ⟨_, _, _, q⟩ := hs
    exact False.elim q
end L2
namespace L2
open PySem PySem.Spec PyProof.Rows
section
variable {X : Cx} {x : Str} {p pos : Pos} {e : Expr} {es : List Expr} {t : TA} {id T : String} {r : List V → Hp → VK → Prop}
def tCB (r : List V → Hp → VK → Prop) (t : TA) : TE := fun σ H Q => t σ H fun vs H1 => r vs H1 Q
theorem pe_callB (hc : CallR X (.builtin id) r) (hg : Gl X x) (hm : X.mg x = none) (hv : bootBuiltins x = some (.builtin id)) (ha : PA X (e :: es) t) (hn : x ≠ "__name__" := by decide) (hdb : (x == ("__debug__" : Str)) = false := by decide)
    (he : starEach (e :: es) X.env = (false, eval e X.env) :: starEach es X.env := by rfl) (hpl : (backTo pos (starEach es X.env)).any (·.1) = false := by rfl) : PE X (.Call (.Name x p) (e :: es) [] pos) (tCB r t) := by
  intro pins s σ H Q I h
  refine wpAny_Call_Name_kw (ld_blt I hg hm hv ?_ hn hdb)
  exact PyProof.Rows.callWith_builtin1 (thn (ha pos pins s σ H _ I h) fun us s1 ⟨vs, H1, I1, r1, q1⟩ => hc pins s1 σ H1 vs us Q I1 r1 q1) he hpl
theorem pe_callTy (hc : CallR X (.type T) r) (hg : Gl X x) (hm : X.mg x = none) (hv : bootBuiltins x = some (.type T)) (ha : PA X (e :: es) t) (hn : x ≠ "__name__" := by decide) (hdb : (x == ("__debug__" : Str)) = false := by decide)
    (he : starEach (e :: es) X.env = (false, eval e X.env) :: starEach es X.env := by rfl) (hpl : (backTo pos (starEach es X.env)).any (·.1) = false := by rfl) : PE X (.Call (.Name x p) (e :: es) [] pos) (tCB r t) := by
  intro pins s σ H Q I h
  refine wpAny_Call_Name_kw (ld_blt I hg hm hv ?_ hn hdb)
  exact PyProof.Rows.callWith_type1 (thn (ha pos pins s σ H _ I h) fun us s1 ⟨vs, H1, I1, r1, q1⟩ => hc pins s1 σ H1 vs us Q I1 r1 q1) he hpl
end
end L2
namespace HT
open PySem PyProof.Rows
section
open PySem.SeqAt
open PySem.AutoSeq1 (wpAny_loadPart')
open PySem.MeetsSeq PySem.MeetsSeq2 PySem.MeetsSeq3
end
section
variable {prog : Program} {w : World} {A : Around} {E : Value → Shared → Prop} {s : Shared}
end
end HT
namespace L2
open PySem PySem.Spec PyProof.Rows
section
variable {X : Cx} {e : Expr} {te : TE} {lo hi : Option Expr} {tl th : TO} {pos p2 : Pos}
end
end L2
namespace L2
open PySem PySem.Spec PyProof.Rows
def ixN (n : Nat) (i : Int) : Option Nat := if 0 ≤ i then (if i < n then some i.toNat else none) else if -(n : Int) ≤ i then some (i + n).toNat else none
def atI {α : Type} (xs : List α) (i : Int) : Option α := (ixN xs.length i).bind fun j => xs[j]?
theorem ixN_seq {n : Nat} {i : Int} {j : Nat} (h : ixN n i = some j) : seqIndex? i n = some j ∧ j < n ∧ -(n : Int) ≤ i ∧ i < n := by
  unfold ixN at h
  by_cases h0 : 0 ≤ i
  · rw [if_pos h0] at h
    by_cases h1 : i < n
    · rw [if_pos h1] at h
      have e : i.toNat = j := Option.some.inj h
      exact ⟨by rw [seqIndex_of h0 h1, e], by omega, by omega, h1⟩
    · rw [if_neg h1] at h; cases h
  · rw [if_neg h0] at h
    by_cases h1 : -(n : Int) ≤ i
    · rw [if_pos h1] at h
      have e : (i + n).toNat = j := Option.some.inj h
      exact ⟨by rw [seqIndex_neg (by omega) h1, e], by omega, h1, by omega⟩
    · rw [if_neg h1] at h; cases h
theorem atI_get {α : Type} {xs : List α} {i : Int} {v : α} (h : atI xs i = some v) : ∃ j, seqIndex? i xs.length = some j ∧ xs[j]? = some v ∧ j < xs.length ∧ -(xs.length : Int) ≤ i ∧ i < xs.length := by
  unfold atI at h
  cases e : ixN xs.length i with
  | none => rw [e] at h; cases h
  | some j =>
    rw [e] at h
    obtain ⟨h1, h2, h3, h4⟩ := ixN_seq e
    exact ⟨j, h1, h, h2, h3, h4⟩
theorem atI_nat {α : Type} {xs : List α} {j : Nat} {v : α} (h : xs[j]? = some v) : atI xs (j : Int) = some v := by
  have hj : j < xs.length := (List.getElem?_eq_some_iff.mp h).1
  have e : ixN xs.length (j : Int) = some j := by
    unfold ixN
    rw [if_pos (by omega), if_pos (by omega)]; simp
  unfold atI; rw [e]; exact h
def PlainIx (b : Expr) : Prop := ∀ o i, subscripted b false o i = operate [o, i] (getItem o i)
def IxR (X : Cx) (r : R2) : Prop :=
  ∀ (value slice : Expr) (pins : List (Addr × Obj)) (s : Shared) (σ : St) (H : Hp) (x y : V) (v u : Value) (Q : VK), Inv X pins σ H s → RelV x v → RelV y u → r x y H Q →
    subscripted slice false v u = operate [v, u] (getItem v u) → wpAny (model X.prog X.w) X.A (subscriptTail value slice v u) (EP X pins σ Q) X.xe s
def MtR (X : Cx) (id : String) (r : V → List V → Hp → VK → Prop) : Prop :=
  ∀ (pins : List (Addr × Obj)) (s : Shared) (σ : St) (H : Hp) (x : V) (xs : List V) (v : Value) (us : List Value) (Q : VK), Inv X pins σ H s → RelV x v → Vals xs us → r x xs H Q →
    wpAny (model X.prog X.w) X.A (call (.builtin id) (v :: us)) (EP X pins σ Q) X.xe s
section
variable {X : Cx} {a b : Expr} {ta tb : TE} {pos : Pos}
theorem pe_ix {r : R2} (hr : IxR X r) (ha : PE X a ta) (hb : PE X b tb) (hs : PlainIx b) : PE X (.Subscript a b pos) (tOp r ta tb) := by
  intro pins s σ H Q I h
  exact Subscript_ (binT ha hb I h fun v u s2 x y H2 I2 rx ry q => hr a b pins s2 σ H2 x y v u Q I2 rx ry q (hs _ _))
def rIxL (K : PySem.W.Frag) : R2 := fun x y H Q => ∃ p xs i v, x = .ref p ∧ y = .int i ∧ SqL K H p xs ∧ atI xs i = some v ∧ Q v H
def rIxT (K : PySem.W.Frag) : R2 := fun x y H Q => ∃ p xs i v, x = .ref p ∧ y = .int i ∧ SqT K H p xs ∧ atI xs i = some v ∧ Q v H
theorem ix_list : IxR X (rIxL X.K) := by
  intro value slice pins s σ H x y v u Q I rx ry h hs
  obtain ⟨p, xs, i, z, rfl, rfl, hq, he, q⟩ := h
  cases rx
  obtain ⟨t, rfl⟩ := ry
  obtain ⟨its, r, pl, hz⟩ := I.list hq
  obtain ⟨j, h1, h2, h3, h4, h5⟩ := atI_get he
  obtain ⟨w, ew, rw'⟩ := r.get h2
  have hl := r.length
  have hn := line63
  have fin : EP X pins σ Q w s := ⟨z, H, I, rw', q⟩
  by_cases h0 : 0 ≤ i
  · have hj : i.toNat = j := by
      rw [seqIndex_of h0 h5] at h1
      exact Option.some.inj h1
    exact item_listR pl.isList h0 (by omega) (by rw [hj]; simpa using ew) fin hs
  · have hj : (i + (its.toArray.size : Int)).toNat = j := by
      rw [seqIndex_neg (by omega) h4] at h1
      rw [List.size_toArray, ← hl]
      exact Option.some.inj h1
    exact subscriptTail_builtinR (x := w) pl.isList.typeIs slot_list_getitem.lookup
      (wpAny_getItem_list_neg (Q := fun r s' => r = w ∧ EP X pins σ Q r s') pl.isList (by omega) (by rw [List.size_toArray] <;> omega) (by omega) (by rw [hj]; simpa using ew) ⟨rfl, fin⟩) hs
theorem ix_tup : IxR X (rIxT X.K) := by
  intro value slice pins s σ H x y v u Q I rx ry h hs
  obtain ⟨p, xs, i, z, rfl, rfl, hq, he, q⟩ := h
  cases rx
  obtain ⟨t, rfl⟩ := ry
  obtain ⟨its, r, pl, hz⟩ := I.tuple hq
  obtain ⟨j, h1, h2, h3, h4, h5⟩ := atI_get he
  obtain ⟨w, ew, rw'⟩ := r.get h2
  have hl := r.length
  have hn := line63
  have fin : EP X pins σ Q w s := ⟨z, H, I, rw', q⟩
  exact subscriptTail_builtinR (x := w) pl.typeIs slot_tuple_getitem.lookup
    (getItem_tuple (j := j) (Q := fun r s' => r = w ∧ EP X pins σ Q r s') pl (by omega) (by omega) (by rw [List.size_toArray, ← hl]; exact h1) (by simpa using ew) ⟨rfl, fin⟩) hs
theorem mapSeq_set (its : List Value) (n j : Nat) (u : Value) : Obj.mapSeq (·.setIfInBounds j u) { cls := .type "list", data := .seq its.toArray n } = { cls := .type "list", data := .seq (its.set j u).toArray n } := by
  simp [Obj.mapSeq]
theorem Inv.lst {pins : List (Addr × Obj)} {σ : St} {H : Hp} {s : Shared} {p : Addr} {xs : List V} (I : Inv X pins σ H s) (h : H p = some (.lst xs)) :
    ∃ (its : List Value) (n : Nat), Vals xs its ∧ s.heap.get? p = some { cls := .type "list", data := .seq its.toArray n } ∧ xs.length ≤ sizeLine := by
  obtain ⟨z, its, n, r, e⟩ := I.hok p _ h
  exact ⟨its, n, r, e, z⟩
theorem Inv.lstUpd {pins : List (Addr × Obj)} {σ : St} {H : Hp} {s : Shared} {p : Addr} {xs ys : List V} {its its' : List Value} {n n' : Nat} {f : Obj → Obj} (I : Inv X pins σ H s) (h : H p = some (.lst xs))
    (ho : s.heap.get? p = some { cls := .type "list", data := .seq its.toArray n }) (hf : f { cls := .type "list", data := .seq its.toArray n } = { cls := .type "list", data := .seq its'.toArray n' }) (r : Vals ys its') (hz : ys.length ≤ sizeLine) (t : Nat) :
    Inv X pins σ (upd H p (.lst ys)) { s with heap := s.heap.update p f, toks := t } := by
  have e : (s.heap.update p f).get? p = some { cls := .type "list", data := .seq its'.toArray n' } := by
    rw [Heap.get?_update_self f ho (by rw [hf] <;> rfl), hf]
  refine I.write (x := p) (e := p) (by rw [h]; trivial) (.inl rfl) (fun b u hb q => (Heap.get?_update_other _ _ (Ne.symm hb)).trans q) ⟨_, e⟩ ?_
  exact ⟨hz, its', n', r, e⟩
def rSetL : V → V → V → Hp → (Hp → Prop) → Prop := fun o i v H Q => ∃ p xs k j, o = .ref p ∧ i = .int k ∧ H p = some (.lst xs) ∧ ixN xs.length k = some j ∧ Q (upd H p (.lst (xs.set j v)))
theorem set_list : PSet X rSetL := by
  intro pins s σ H o i v ov iv u Q I ro ri rv h
  obtain ⟨p, xs, k, j, rfl, rfl, hp, hj, q⟩ := h
  cases ro
  obtain ⟨t, rfl⟩ := ri
  obtain ⟨its, n, r, ho, hz⟩ := I.lst hp
  obtain ⟨h1, h2, h3, h4⟩ := ixN_seq hj
  have hl := r.length
  have hn := line63
  have I' : Inv X pins σ (upd H p (.lst (xs.set j v))) { s with heap := s.heap.update p (Obj.mapSeq (·.setIfInBounds j u)) } :=
    I.lstUpd hp ho (mapSeq_set its n j u) (r.set rv j) (by rw [List.length_set]; exact hz) s.toks
  by_cases h0 : 0 ≤ k
  · have hk : k.toNat = j := by
      rw [seqIndex_of h0 h4] at h1
      exact Option.some.inj h1
    exact PySem.W.ki_setAt ho h0 (by omega) (by rw [List.size_toArray, ← hl]; exact h4) (by rw [hk]; exact ⟨_, I', q⟩)
  · have hk : (k + (its.toArray.size : Int)).toNat = j := by
      rw [seqIndex_neg (by omega) h3] at h1
      rw [List.size_toArray, ← hl]
      exact Option.some.inj h1
    exact PySem.W.ki_setBack ho (by omega) (by rw [List.size_toArray, ← hl]; exact h3) (by omega) (by rw [hk]; exact ⟨_, I', q⟩)
def flatV : V → Bool
  | .non => true
  | .bl _ => true
  | .int _ => true
  | .str _ => true
  | _ => false
def eqV : V → V → Bool
  | .non, .non => true
  | .bl a, .bl b => a == b
  | .bl a, .int b => (if a then 1 else 0) == b
  | .int a, .bl b => a == (if b then 1 else 0)
  | .int a, .int b => a == b
  | .str a, .str b => a == b
  | _, _ => false
theorem eqAt_V {A : Around} {s : Shared} {y x : V} {u v : Value} (ry : RelV y u) (rx : RelV x v) (fy : flatV y = true) (fx : flatV x = true) : SeqAt.EqAt A s u v (eqV y x) := by
  cases y with
  | non =>
    cases ry
    cases x with
    | non => cases rx; exact SeqAt.EqAt.same _
    | bl b => cases rx; exact SeqAt.EqAt.none_bool b
    | int b => obtain ⟨t, rfl⟩ := rx; exact SeqAt.EqAt.none_int b t
    | str b => obtain ⟨t, rfl⟩ := rx; exact SeqAt.EqAt.none_str b t
    | _ => exact absurd (show false = true from fx) Bool.false_ne_true
  | bl a =>
    cases ry
    cases x with
    | non => cases rx; exact SeqAt.EqAt.bool_none a
    | bl b => cases rx; exact SeqAt.EqAt.bool_bool a b
    | int b => obtain ⟨t, rfl⟩ := rx; exact SeqAt.EqAt.bool_int a b t
    | str b => obtain ⟨t, rfl⟩ := rx; exact SeqAt.EqAt.bool_str a b t
    | _ => exact absurd (show false = true from fx) Bool.false_ne_true
  | int a =>
    obtain ⟨t', rfl⟩ := ry
    cases x with
    | non => cases rx; exact SeqAt.EqAt.int_none a t'
    | bl b => cases rx; exact SeqAt.EqAt.int_bool a t' b
    | int b => obtain ⟨t, rfl⟩ := rx; exact SeqAt.EqAt.int_int a t' b t
    | str b => obtain ⟨t, rfl⟩ := rx; exact SeqAt.EqAt.int_str a t' b t
    | _ => exact absurd (show false = true from fx) Bool.false_ne_true
  | str a =>
    obtain ⟨t', rfl⟩ := ry
    cases x with
    | non => cases rx; exact SeqAt.EqAt.str_none a t'
    | bl b => cases rx; exact SeqAt.EqAt.str_bool a t' b
    | int b => obtain ⟨t, rfl⟩ := rx; exact SeqAt.EqAt.str_int a t' b t
    | str b => obtain ⟨t, rfl⟩ := rx; exact SeqAt.EqAt.str_str a t' b t
    | _ => exact absurd (show false = true from fx) Bool.false_ne_true
  | _ => exact absurd (show false = true from fy) Bool.false_ne_true
def eqU (x : V) (u : Value) : Bool := match u with
  | .none => eqV .non x
  | .bool b => eqV (.bl b) x
  | .int i _ => eqV (.int i) x
  | .str z _ => eqV (.str z) x
  | _ => false
theorem eqU_of {x y : V} {u : Value} (r : RelV y u) (f : flatV y = true) : eqU x u = eqV y x := by
  cases y with
  | non => cases r; rfl
  | bl b => cases r; rfl
  | int i => obtain ⟨t, rfl⟩ := r; rfl
  | str z => obtain ⟨t, rfl⟩ := r; rfl
  | _ => exact absurd (show false = true from f) Bool.false_ne_true
theorem any_eqU {x : V} : ∀ {xs : List V} {us : List Value}, Vals xs us → xs.all flatV = true → us.any (eqU x) = xs.any fun y => eqV y x
  | _, _, .nil, _ => rfl
  | y :: xs, u :: us, .cons r t, f => by
    rw [List.all_cons, Bool.and_eq_true] at f
    rw [List.any_cons, List.any_cons, eqU_of r f.1, any_eqU t f.2]
theorem mem_eqAt {A : Around} {s : Shared} {x : V} {v : Value} (rx : RelV x v) (fx : flatV x = true) : ∀ {xs : List V} {us : List Value}, Vals xs us → xs.all flatV = true → ∀ u ∈ us, SeqAt.EqAt A s u v (eqU x u)
  | _, _, .nil, _ => fun u hu => by cases hu
  | y :: xs, u :: us, .cons r t, f => fun u' hu => by
    rw [List.all_cons, Bool.and_eq_true] at f
    rcases List.mem_cons.mp hu with rfl | hu
    · rw [eqU_of r f.1]; exact eqAt_V r rx f.1 fx
    · exact mem_eqAt rx fx t f.2 u' hu
def inV (x : V) (xs : List V) : Bool := xs.any fun y => eqV y x
def rIn (K : PySem.W.Frag) (neg : Bool) : R2 := fun x y H Q => ∃ p xs, y = .ref p ∧ (SqL K H p xs ∨ SqT K H p xs) ∧ flatV x = true ∧ xs.all flatV = true ∧ Q (.bl (if neg then !inV x xs else inV x xs)) H
theorem op_in_seq : OpR X (compareOp .In) (rIn X.K false) := by
  intro pins s σ H x y v u Q I rx ry h
  obtain ⟨p, xs, rfl, hq, fx, fs, q⟩ := h
  cases ry
  rcases hq with hq | hq
  · obtain ⟨its, r, pl, hz⟩ := I.list hq
    refine SeqAt.in_listAt (eqU x) pl.isList (fun w hw => mem_eqAt rx fx r fs w (by simpa using hw)) ⟨.bl _, H, I, rfl, ?_⟩
    rw [show its.toArray.any (eqU x) = its.any (eqU x) by simp, any_eqU r fs]
    exact q
  · obtain ⟨its, r, pl, hz⟩ := I.tuple hq
    refine SeqAt.in_tupleAt (eqU x) pl (fun w hw => mem_eqAt rx fx r fs w (by simpa using hw)) ⟨.bl _, H, I, rfl, ?_⟩
    rw [show its.toArray.any (eqU x) = its.any (eqU x) by simp, any_eqU r fs]
    exact q
theorem call_len_seq : CallR X (.builtin "len") (fun xs H Q => ∃ p ys, xs = [.ref p] ∧ (SqL X.K H p ys ∨ SqT X.K H p ys) ∧ Q (.int ys.length) H) := by
  intro pins s σ H xs us Q I r h
  obtain ⟨p, ys, rfl, hq, q⟩ := h
  obtain ⟨u, rfl, rx⟩ := vals1 r
  cases rx
  have hn := line63
  rcases hq with hq | hq
  · obtain ⟨its, r', pl, hz⟩ := I.list hq
    have hlen := r'.length
    exact Calls.call_len_list pl.isList (by simp only [List.size_toArray] <;> omega) ⟨.int ys.length, H, I.tok _, ⟨s.toks + 1, by rw [List.size_toArray, hlen]⟩, q⟩
  · obtain ⟨its, r', pl, hz⟩ := I.tuple hq
    have hlen := r'.length
    exact len_tuple pl (by simp only [List.size_toArray] <;> omega) ⟨.int ys.length, H, I.tok _, ⟨s.toks + 1, by rw [List.size_toArray, hlen]⟩, q⟩
theorem CallR.or {f : Value} {r r' : List V → Hp → VK → Prop} (h : CallR X f r) (h' : CallR X f r') : CallR X f (fun xs H Q => r xs H Q ∨ r' xs H Q) := by
  intro pins s σ H xs us Q I rs q
  rcases q with q | q
  · exact h pins s σ H xs us Q I rs q
  · exact h' pins s σ H xs us Q I rs q
theorem call_list_of : CallR X (.type "list") (fun xs H Q => ∃ p ys, xs = [.ref p] ∧ (SqL X.K H p ys ∨ SqT X.K H p ys) ∧ ∀ l, H l = none → Q (.ref l) (upd H l (.lst ys))) := by
  intro pins s σ H xs us Q I r h
  obtain ⟨p, ys, rfl, hq, q⟩ := h
  obtain ⟨u, rfl, rx⟩ := vals1 r
  cases rx
  have fin : ∀ (its : List Value), Vals ys its → ys.length ≤ sizeLine → ∀ (h' : Heap) (c' : Nat), (∀ b o', s.heap.get? b = some o' → h'.get? b = some o') →
      h'.get? s.heap.objs.size = some { cls := .type "list", dict := none, data := .seq its.toArray c', slots := #[] } → EP X pins σ Q (.ref s.heap.objs.size) { s with heap := h' } := fun its r' hz h' c' kp e =>
    ⟨.ref s.heap.objs.size, _, I.laid (t' := s.toks) kp (Nat.le_refl _) (show ObjOk X.prog X.w _ h' _ (.lst ys) from ⟨hz, its, c', r', e⟩), rfl, q _ (I.hok.fresh (Nat.le_refl _))⟩
  rcases hq with hq | hq
  · obtain ⟨its, r', pl, hz⟩ := I.list hq
    have hlen := r'.length
    obtain ⟨o, ho, hc, n, hd⟩ := pl.isList
    exact call_list_seq p (.inl rfl) ho hc hd (fun h' c' kp e => fin its r' hz h' c' kp e) (by simp only [List.size_toArray] <;> omega)
  · obtain ⟨its, r', pl, hz⟩ := I.tuple hq
    have hlen := r'.length
    obtain ⟨o, ho, hc, n, hd⟩ := pl
    exact call_list_seq p (.inr rfl) ho hc hd (fun h' c' kp e => fin its r' hz h' c' kp e) (by simp only [List.size_toArray] <;> omega)
def tyV (K : PySem.W.Frag) (T : String) (x : V) (H : Hp) : Prop := match x with
  | .str _ => T = "str"
  | .int _ => T = "int"
  | .ref p => (T = "list" ∧ ∃ xs, SqL K H p xs) ∨ (T = "tuple" ∧ ∃ o, K.lookup p = some o ∧ o.cls = .type "tuple" ∧ o.dict = none) ∨
      (T = "dict" ∧ ((∃ kvs, H p = some (.dK kvs)) ∨ ∃ kvs, H p = some (.dT kvs))) ∨ (T = "set" ∧ ∃ S n, H p = some (.set S n))
  | _ => False
theorem tyV_is {pins : List (Addr × Obj)} {σ : St} {H : Hp} {s : Shared} {T : String} {x : V} {v : Value} (I : Inv X pins σ H s) (r : RelV x v) (ty : tyV X.K T x H) :
    s.TypeIs v T ∧ ∀ a, v = .ref a → ∃ ob, s.heap.get? a = some ob ∧ ob.dict = none := by
  cases x with
  | str z =>
    obtain ⟨t, rfl⟩ := r
    cases (show T = "str" from ty)
    exact ⟨typeIs_str s z t, fun _ e => nomatch e⟩
  | int i =>
    obtain ⟨t, rfl⟩ := r
    cases (show T = "int" from ty)
    exact ⟨typeIs_int s i t, fun _ e => nomatch e⟩
  | ref p =>
    cases r
    rcases ty with ⟨rfl, xs, hq⟩ | ⟨rfl, o, hk, hc, hd⟩ | ⟨rfl, hk⟩ | ⟨rfl, S, n, hk⟩
    · obtain ⟨its, _, pl, _⟩ := I.list hq
      refine ⟨pl.isList.typeIs, fun a e => ?_⟩
      cases e
      obtain ⟨o, n, e, c, hd, _⟩ := pl
      exact ⟨o, e, hd⟩
    · refine ⟨⟨o, I.kIn p o hk, hc⟩, fun a e => ?_⟩
      cases e
      exact ⟨o, I.kIn _ o hk, hd⟩
    · have z : ∃ o, s.heap.get? p = some o ∧ o.ExactDict := by
        rcases hk with ⟨kvs, hk⟩ | ⟨kvs, hk⟩
        · obtain ⟨_, _, _, _, o, _, _, e, ex, _⟩ := I.hok p _ hk
          exact ⟨o, e, ex⟩
        · obtain ⟨_, _, _, _, o, _, _, e, ex, _⟩ := I.hok p _ hk
          exact ⟨o, e, ex⟩
      obtain ⟨o, e, ex⟩ := z
      refine ⟨⟨o, e, ex.1⟩, fun a e2 => ?_⟩
      cases e2
      exact ⟨o, e, ex.2.1⟩
    · obtain ⟨o, _, _, _, e, ex, _⟩ := I.hok p _ hk
      refine ⟨⟨o, e, ex.1⟩, fun a e2 => ?_⟩
      cases e2
      exact ⟨o, e, ex.2.1⟩
  | _ => exact False.elim ty
def tBM (K : PySem.W.Frag) (T : String) (r : V → List V → Hp → VK → Prop) (to : TE) (t : TA) : TE := fun σ H Q => to σ H fun x H1 => tyV K T x H1 ∧ t σ H1 fun xs H2 => r x xs H2 Q
variable {o e : Expr} {es : List Expr} {to : TE} {t : TA} {name : Str} {apos cpos : Pos} {T id : String} {r : V → List V → Hp → VK → Prop}
theorem pe_bm (pa : PlainAttrs T) (slot : Slot T name id) (hty : typeOf (.builtin id) = pure (.type "method_descriptor")) (hm : MtR X id r) (ho : PE X o to) (ha : PA X (e :: es) t)
    (hbase : attributeBase o name X.env (eval o X.env) = eval o X.env := by rfl)
    (hfew : ((backTo cpos (starEach (e :: es) X.env)).all (fun x => !x.1) && (backToKw cpos (keywordEach [] X.env)).all (fun x => x.1.isSome)
      && decide ((e :: es).length + ([] : List Keyword).length + (if ([] : List Keyword).isEmpty then 0 else 1) < 30)) = true := by rfl)
    (hline : (apos.endLine == cpos.line) = true := by rfl) (hs : starEach (e :: es) X.env = (false, eval e X.env) :: starEach es X.env := by rfl) (hplain : (backTo cpos (starEach es X.env)).any (·.1) = false := by rfl) :
    PE X (.Call (.Attribute o name apos) (e :: es) [] cpos) (tBM X.K T r to t) := by
  intro pins s σ H Q I h
  refine wpAny_Call_method_late hbase hfew hline rfl (thn (ho pins s σ H _ I h) fun v s1 ⟨x, H1, I1, r1, ty, q1⟩ => ?_)
  obtain ⟨h1, h2⟩ := tyV_is I1 r1 ty
  refine ⟨T, id, pa, slot, hty, h1, h2, ?_⟩
  have hA := ha cpos pins s1 σ H1 _ I1 q1
  rw [hs] at hA ⊢
  refine Calls.callWith_builtin (by show (false || (backTo cpos (starEach es X.env)).any (·.1)) = false; rw [hplain] <;> rfl) (Calls.evalArgs_plain ?_)
  exact thn hA fun us s2 ⟨vs, H2, I2, r2, q2⟩ => hm pins s2 σ H2 x vs v us Q I2 r1 r2 q2
end
end L2
namespace L2
open PySem PySem.Spec PyProof.Rows
def MtM (X : Cx) (id : String) (r : V → List V → Hp → VK → Prop) : Prop :=
  ∀ (pins : List (Addr × Obj)) (s : Shared) (σ : St) (H : Hp) (x : V) (xs : List V) (v : Value) (us : List Value) (Q : VK), Inv X pins σ H s → RelV x v → Vals xs us → r x xs H Q →
    wpAny (model X.prog X.w) X.A (call (.builtin id) (v :: us)) (EP X pins σ Q) X.xe s
theorem Vals.one : ∀ {x : V} {us : List Value}, Vals [x] us → ∃ u, us = [u] ∧ RelV x u
  | _, _, .cons r .nil => ⟨_, rfl, r⟩
theorem Vals.two : ∀ {x y : V} {us : List Value}, Vals [x, y] us → ∃ u v, us = [u, v] ∧ RelV x u ∧ RelV y v
  | _, _, _, .cons r (.cons q .nil) => ⟨_, _, rfl, r, q⟩
section
variable {X : Cx} {pins : List (Addr × Obj)} {σ : St} {H : Hp} {s : Shared} {l b : Addr} {xs ys zs : List V}
theorem Inv.lset {its its' : List Value} {n : Nat} {f : Array Value → Array Value} {t' : Nat} (I : Inv X pins σ H s) (hH : H l = some (.lst xs))
    (e : s.heap.get? l = some { cls := .type "list", data := .seq its.toArray n }) (hf : f its.toArray = its'.toArray) (hv : Vals ys its') (hz : ys.length ≤ sizeLine) :
    Inv X pins σ (upd H l (.lst ys)) { s with heap := s.heap.update l (Obj.mapSeq f), toks := t' } := by
  have q := PySem.IsL.update e f
  rw [hf] at q
  refine I.write (x := l) (e := l) (by rw [hH]; exact trivial) (.inl rfl) (fun b' u hb hu => (Heap.get?_update_other s.heap (Obj.mapSeq f) (Ne.symm hb)).trans hu) ⟨_, q⟩ ?_
  exact ⟨hz, its', _, hv, q⟩
theorem Inv.lnew {its : List Value} {t' : Nat} (I : Inv X pins σ H s) (hv : Vals ys its) (hz : ys.length ≤ sizeLine) :
    Inv X pins σ (upd H s.heap.objs.size (.lst ys)) { s with heap := s.heap.push { cls := .type "list", data := .seq its.toArray }, toks := t' } :=
  I.laid (fun _ _ q => Heap.get?_push_of_some _ q) (Nat.le_refl _) ⟨hz, its, 0, hv, Heap.get?_push_size _ rfl⟩
theorem Inv.fresh (I : Inv X pins σ H s) : H s.heap.objs.size = none := I.hok.fresh (Nat.le_refl _)
theorem Inv.lstM (I : Inv X pins σ H s) (hH : H l = some (.lst xs)) : xs.length ≤ sizeLine ∧ ∃ (its : List Value) (n : Nat), Vals xs its ∧ xs.length = its.length ∧ s.heap.get? l = some { cls := .type "list", data := .seq its.toArray n } := by
  obtain ⟨z, its, n, r, e⟩ := I.hok l _ hH
  exact ⟨z, its, n, r, r.length, e⟩
theorem notLongL {n : Nat} (h : n ≤ sizeLine) : Builtin.List.listTooLong n = false := by
  unfold Builtin.List.listTooLong
  exact decide_eq_false (by omega)
end
section
variable {X : Cx}
def rAppend : V → List V → Hp → VK → Prop := fun x vs H Q => ∃ l xs y, x = .ref l ∧ vs = [y] ∧ H l = some (.lst xs) ∧ xs.length < sizeLine ∧ Q .non (upd H l (.lst (xs ++ [y])))
theorem mt_append : MtM X "list.append" rAppend := by
  intro pins s σ H x vs v us Q I rx rv h
  obtain ⟨l, xs, y, rfl, rfl, hH, hz, q⟩ := h
  cases rx
  obtain ⟨u, rfl, ru⟩ := rv.one
  obtain ⟨z, its, n, r, hl, e⟩ := I.lstM hH
  refine call_meets F.slot_list_append ⟨_, e, rfl⟩ F.entry_list_append (F.args_list_append_2 _ _) (PySem.list_append l its.toArray n u (by rw [List.size_toArray]; omega)) ⟨e, ?_⟩
  refine ⟨.non, _, I.lset (its' := its ++ [u]) hH e (by simp) (r.append (.cons ru .nil)) ?_, rfl, q⟩
  rw [List.length_append, List.length_singleton]
  omega
def rExtend : V → List V → Hp → VK → Prop := fun x vs H Q => ∃ l b xs zs, x = .ref l ∧ vs = [.ref b] ∧ H l = some (.lst xs) ∧ H b = some (.lst zs) ∧ xs.length + zs.length ≤ sizeLine ∧ Q .non (upd H l (.lst (xs ++ zs)))
theorem mt_extend : MtM X "list.extend" rExtend := by
  intro pins s σ H x vs v us Q I rx rv h
  obtain ⟨l, b, xs, zs, rfl, rfl, hH, hB, hz, q⟩ := h
  cases rx
  obtain ⟨u, rfl, ru⟩ := rv.one
  cases ru
  obtain ⟨z, its, n, r, hl, e⟩ := I.lstM hH
  obtain ⟨z2, its2, n2, r2, hl2, e2⟩ := I.lstM hB
  have hsz : its.toArray.size + its2.toArray.size ≤ sizeLine := by rw [List.size_toArray, List.size_toArray]; omega
  have hlong : ¬ (!its.toArray.isEmpty && Builtin.List.listTooLong (its.toArray.size + its2.toArray.size)) = true := by
    rw [notLongL hsz, Bool.and_false]
    exact Bool.false_ne_true
  refine call_meets F.slot_list_extend ⟨_, e, rfl⟩ F.entry_list_extend (F.args_list_extend_2 _ _)
    (AutoSeq1.list_extend_list_list_0 l its.toArray n b its2.toArray n2 hlong (by rw [List.size_toArray]; omega) (by omega)) ⟨e, e2, ?_⟩
  refine ⟨.non, _, I.lset (its' := its ++ its2) hH e (by simp) (r.append r2) ?_, rfl, q⟩
  rw [List.length_append]
  omega
def rCat : R2 := fun x y H Q => ∃ l b xs zs, x = .ref l ∧ y = .ref b ∧ H l = some (.lst xs) ∧ H b = some (.lst zs) ∧ xs.length + zs.length ≤ sizeLine ∧ ∀ p, H p = none → Q (.ref p) (upd H p (.lst (xs ++ zs)))
theorem op_cat : OpR X (binaryOp .Add) rCat := by
  intro pins s σ H x y v u Q I rx ry h
  obtain ⟨l, b, xs, zs, rfl, rfl, hH, hB, hz, q⟩ := h
  cases rx
  cases ry
  obtain ⟨z, its, n, r, hl, e⟩ := I.lstM hH
  obtain ⟨z2, its2, n2, r2, hl2, e2⟩ := I.lstM hB
  refine PySem.P.add_list e e2 ?_ (by rw [List.size_toArray, List.size_toArray]; omega)
  have ea : its.toArray ++ its2.toArray = (its ++ its2).toArray := by simp
  rw [ea]
  exact ⟨.ref _, _, I.lnew (t' := s.toks) (r.append r2) (by rw [List.length_append]; omega), rfl, q _ I.fresh⟩
end
section
variable {prog : Program} {w : World} {A : Around} {E : Value → Shared → Prop} {s : Shared}
end
section
variable {X : Cx}
end
end L2
namespace Att
open PySem PySem.W PySem.Calls PyProof.Rows
theorem ints_of_wellAll {P : Params} {h : Heap} : ∀ (ns : List Int) (vs : List Value), WellAll P h vs (ns.map WData.int) → IntsAre vs ns := by
  intro ns
  induction ns with
  | nil =>
    intro vs w
    rw [List.map_nil] at w
    cases w
    exact .nil
  | cons n ns ih =>
    intro vs w
    rw [List.map_cons] at w
    cases w with
    | cons a b =>
      cases a
      exact .cons _ _ (ih _ b)
theorem script_of {l : OpenLaw} {n : Nat} (hn : l.most = some n) {P : Params} {h : Heap} {args : List WData} {vals : List Value}
    (hpre : l.row.toRowW.claim.pre args = true) (hwl : WellAll P h vals args) :
    ∃ a vs ns, vals = [Value.ref a] ∧ args = [WData.list (ns.map WData.int)] ∧ h.get? a = some { cls := .type "list", data := .seq vs.toArray } ∧ IntsAre vs ns ∧ ns.length ≤ n := by
  have hsh : WShape.hasAll [] args [.list .int] = true := (pre_splitW hpre).1
  have hc : l.pre.holds [] { args := args } = true := (pre_splitW hpre).2
  obtain ⟨d, r, rfl, h1, h2⟩ := hasAllW_cons hsh
  obtain rfl := hasAllW_nil h2
  obtain ⟨xs, rfl, h3⟩ := hasW_list h1
  obtain ⟨ns, rfl⟩ := items_int h3
  have hlen : ns.length ≤ n := by
    unfold OpenLaw.pre at hc
    have h4 : (WTm.not (.lt (.lit (.int (n : Int))) (.len (.arg 0)))).holds [] { args := [.list (ns.map .int)] } = true := by
      have h4 := (holds_andW hc).1
      rw [hn] at h4
      exact h4
    have h5 := condW_of h4 (w_not (w_lt w_lit (w_len_list (w_arg rfl))))
    rw [List.length_map] at h5
    refine Nat.le_of_not_lt fun q => ?_
    have q' : (n : Int) < ((ns.length : Nat) : Int) := by omega
    first
      | (rw [decide_eq_true q'] at h5; exact absurd h5 (by decide))
      | (simp at h5; omega)
  cases hwl with
  | cons w1 w2 =>
    cases w2
    cases w1 with
    | list ho hall => exact ⟨_, _, ns, rfl, rfl, ho, ints_of_wellAll ns _ hall, hlen⟩
theorem post_true (l : OpenLaw) (args : List WData) : l.row.toRowW.claim.post args (.bool true) args = true :=
  postW_of (r := l.row.toRowW) (X := (true == true))
    (show WShape.has [] (.bool true) .bool = true by first | rfl | decide | simp [WShape.has, WShape.arms, WShape.armsAll])
    (show (WTm.eq .res (.lit (.bool true))).value [] { args := args, res := some (.bool true), after := args } = some (.bool (true == true)) from w_eq_bool (w_res rfl) w_lit) rfl
theorem attach_call {l : OpenLaw} {n : Nat} {q : Program} {loose : List Str} {XP : (Str → Option Value) → Heap → Prop} {YP : World → Heap → Prop} {d : DefRec}
    (hn : l.most = some n) (hdf : d.params.defaults = [])
    (call : ∀ (w : World) (s₀ s₁ : Shared) (mg mb : Str → Option Value) (fa : Addr) (o : Obj) (pm cd doc : Value) (a : Addr) (vs : List Value) (ns : List Int),
      Ground q loose [] XP w s₀ mg mb s₁.heap → YP w s₁.heap →
      s₁.heap.get? fa = some o → o.data = .func (docDef d.name d.params d.body d.scope pm cd doc) → s₁.heap.CodeRec cd d.name → mg d.name = some (.ref fa) →
      s₁.heap.get? a = some { cls := .type "list", data := .seq vs.toArray } → IntsAre vs ns → ns.length ≤ n → s₁.gens = #[] →
      codeAny (model l.prog w) callerA (.call (.ref fa) ⟨[.ref a], []⟩) (fun r s' => r = .ok (.ret (.bool true)) ∧ OldK s₁.heap s'.heap ∧ s'.os = s₁.os ∧ AllBare s'.gens) s₁) :
    WalkO q loose XP YP l.row.toRowW d [] (fun f vs => PySem.call f vs) := by
  intro w s₀ s₁ mg mb G Y fa o pm cd doc dV kV ho hd hcd hD hmg hg args vals as hpre hlay hrd hwl hlo
  obtain rfl : dV = .none := Dflts.none hD hdf
  obtain rfl : kV = .none := Dflts.noKw hD
  obtain ⟨a, vs, ns, rfl, rfl, hobj, hints, hlen⟩ := script_of hn hpre hwl
  refine enter_call (codeAny_mono (call w s₀ s₁ mg mb fa o pm cd doc a vs ns G Y ho (fd_plain hd) hcd hmg hobj hints hlen hg) fun r s' hq => ?_)
  obtain ⟨rfl, h2, h3, h4⟩ := hq
  exact ⟨.inl ⟨.bool true, .bool true, [], rfl, fun _ => rfl, .bool true, post_true l _, fun _ => ⟨List.Pairwise.nil, fun _ hm => (nomatch hm)⟩⟩, h2, h3, h4⟩
section
variable {prog : Program} {w : World} {A : Around} {E : Value → Shared → Prop} {s : Shared} {K : Frag}
end
end Att
namespace L2
open PySem PySem.Spec PyProof.Rows
theorem vals_ints : ∀ {vs : List Value} {ns : List Int}, IntsAre vs ns → Vals (ns.map V.int) vs
  | _, _, .nil => .nil
  | _, _, .cons n t h => .cons ⟨t, rfl⟩ (vals_ints h)
def Only (H : Hp) : Prop := ∀ b, H b = none ∨ ∃ o xs, H b = some (.frz o (.lst xs))
theorem law_call {P : Program} {w : World} {K : PySem.W.Frag} {mg mb : Str → Option Value} {CX : CXT} {k : Nat} {fa a : Addr} {fd : FuncData} {x : Str} {sp : Sp} {s₁ : Shared} {vs : List Value} {ns : List Int}
    (KX : K.In s₁.heap) (hns : s₁.heap.Ns mainGlobals mg) (hb : s₁.heap.Ns builtinsNs mb) (hbb : ∀ x : Str, x ≠ "__name__" → mb x = bootBuiltins x) (hlim : s₁.heap.NoLimit) (hg : s₁.gens = #[])
    (ha : s₁.heap.get? a = some { cls := .type "list", data := .seq vs.toArray }) (hi : IntsAre vs ns) (hl : ns.length ≤ sizeLine) (hr : Room k callerA)
    (F : ∀ base : Heap, K.In base → base.Ns mainGlobals mg → FnOk P w K mg base CX k fa fd [x] sp) (hbind : ∀ (s : Shared) (u : Value), BindsTo s fd ⟨[u], []⟩ [(x, u)])
    (hsp : ∀ H : Hp, Only H → SqL K H a (ns.map V.int) → sp [.ref a] H (fun v _ => v = .bl true) fun _ _ _ => False)
    (hCX : ∀ H e s', CX [] H s₁ (fun _ _ _ => False) e s' → False) :
    codeAny (model P w) callerA (.call (.ref fa) ⟨[.ref a], []⟩) (fun r s' => r = .ok (.ret (.bool true)) ∧ OldK s₁.heap s'.heap ∧ s'.os = s₁.os ∧ AllBare s'.gens) s₁ := by
  have rv := vals_ints hi
  have lenV := hi.length
  -- from an abstract heap in which nothing but the script may be tracked
  have core : ∀ H : Hp, Only H → SqL K H a (ns.map V.int) → HOk P w H s₁.heap → (∀ b, H b ≠ none → b = a) → (H a ≠ none → K.lookup a = none) →
      codeAny (model P w) callerA (.call (.ref fa) ⟨[.ref a], []⟩) (fun r s' => r = .ok (.ret (.bool true)) ∧ OldK s₁.heap s'.heap ∧ s'.os = s₁.os ∧ AllBare s'.gens) s₁ := by
    intro H hO hS hok hA hK
    have base_of : ∀ {b : Addr} {o : Obj}, s₁.heap.get? b = some o → H b = none → (hidT s₁.heap H).get? b = some o := fun e n => hidT_get e n
    have noA : ∀ {b : Addr} {o : Obj} {es : Array DictEntry} {ep : Nat}, s₁.heap.get? b = some o → o.data = .dict es ep → H b = none := fun {b o es ep} e d => by
      cases q : H b with
      | none => rfl
      | some u =>
        have e' : b = a := hA b (by rw [q]; simp)
        subst e'
        rw [ha] at e; cases e
        have d' : Data.seq vs.toArray _ = Data.dict es ep := d
        cases d'
    have nsK : ∀ {b : Addr} {m : Str → Option Value}, s₁.heap.Ns b m → (hidT s₁.heap H).Ns b m := fun {b m} ⟨o, es, ep, e, d, r⟩ => ⟨o, es, ep, base_of e (noA e d), d, r⟩
    have hKb : K.In (hidT s₁.heap H) := fun b o e => base_of (KX b o e) (by
      cases q : H b with
      | none => rfl
      | some u =>
        have e' : b = a := hA b (by rw [q]; simp)
        subst e'
        rw [hK (by rw [q]; simp)] at e; cases e)
    have hM : Mod K mg (hidT s₁.heap H) := ⟨hKb, nsK hns, ⟨mb, nsK hb, hbb⟩, let ⟨mc, h1, h2⟩ := hlim; ⟨mc, nsK h1, h2⟩⟩
    have e0 : Env0 P w K mg (hidT s₁.heap H) callerA [] s₁ H := ⟨rfl, hM, fun b o e => of_hidT e, Nat.le_of_eq (hidT_size _ _), trivial, fun b hb => absurd (show b ∈ ([] : List Addr) from hb) (by simp), hok, .of_eq hg⟩
    refine codeAny_mono ((F _ hKb (nsK hns)).run callerA [] s₁ H ⟨[.ref a], []⟩ [.ref a] [.ref a] _ _ hr e0 (hbind s₁ (.ref a)) (.cons rfl .nil) (hsp H hO hS)) fun r s' h => ?_
    cases r with
    | error e => exact (hCX H e s' h).elim
    | ok fl =>
      cases fl with
      | next => exact False.elim h
      | brk => exact False.elim h
      | cont => exact False.elim h
      | ret u =>
        obtain ⟨v, H', os, bare, un, hok', r', q⟩ := h
        have q' : v = .bl true := q
        subst q'
        obtain rfl : u = Value.bool true := r'
        refine ⟨rfl, OldK.of_keep fun b o e => ?_, os, bare⟩
        cases q : H b with
        | none => exact un.keep b o e q (by intro z; exact absurd (show b ∈ ([] : List Addr) from z) (by simp)) (by simp)
        | some u =>
          rcases hO b with z | ⟨ob, xs, z⟩
          · rw [q] at z; cases z
          · have z2 := un.frzs b ob _ z
            obtain ⟨e1, _⟩ := hok b _ z
            obtain ⟨e2, _⟩ := hok' b _ z2
            rw [e] at e1; cases e1
            exact e2
  cases hk : K.lookup a with
  | some o =>
    -- the script is one of the module's own objects
    have e := KX a o hk
    rw [ha] at e
    cases e
    refine core (fun _ => none) (fun _ => .inl rfl) (.inr ⟨_, vs.toArray, _, hk, rfl, rfl, rfl, by rw [List.size_toArray, lenV]; exact hl, by simpa using rv⟩) (fun b u z => by have z' : (none : Option HO) = some u := z; cases z') (fun b z => absurd rfl z) fun z => absurd rfl z
  | none =>
    refine core (fun b => if b = a then some (.frz { cls := .type "list", data := .seq vs.toArray } (.lst (ns.map V.int))) else none) (fun b => ?_) (.inl (.inr ⟨{ cls := .type "list", data := .seq vs.toArray }, if_pos rfl⟩)) (fun b u z => ?_) (fun b z => ?_) fun _ => hk
    · by_cases hb : b = a
      · exact .inr ⟨_, _, if_pos hb⟩
      · exact .inl (if_neg hb)
    · by_cases hb : b = a
      · have z' := (if_pos hb).symm.trans z
        cases z'
        subst hb
        exact ⟨ha, by rw [List.length_map]; exact hl, vs, _, rv, ha⟩
      · have z' := (if_neg hb).symm.trans z
        cases z'
    · by_cases hb : b = a
      · exact hb
      · exact absurd (if_neg hb) z
end L2
namespace L2
open PySem PySem.Spec PyProof.Rows
theorem walk_of {l : PySem.W.OpenLaw} {n k : Nat} {q : Program} {loose : List Str} {XP : (Str → Option Value) → Heap → Prop} {YP : World → Heap → Prop} {d : DefRec} {K : Params → PySem.W.Frag} {CX : World → CXT} {sp : World → Sp} {x : Str}
    (hn : l.most = some n) (hn2 : n ≤ sizeLine) (hdf : d.params.defaults = []) (hr : Room k callerA)
    (hY : ∀ (w : World) (h : Heap), YP w h → (K w.params).In h)
    (F : ∀ (w : World) (mg : Str → Option Value) (fa : Addr) (h : Heap), (K w.params).In h → h.Ns mainGlobals mg → mg d.name = some (.ref fa) →
      ∃ fd : FuncData, (∀ (s : Shared) (u : Value), BindsTo s fd ⟨[u], []⟩ [(x, u)]) ∧
        ∀ base : Heap, (K w.params).In base → base.Ns mainGlobals mg → FnOk l.prog w (K w.params) mg base (CX w) k fa fd [x] (sp w))
    (hsp : ∀ (w : World) (H : Hp) (a : Addr) (ns : List Int), ns.length ≤ n → Only H → SqL (K w.params) H a (ns.map V.int) → sp w [.ref a] H (fun v _ => v = .bl true) fun _ _ _ => False)
    (hCX : ∀ (w : World) (H : Hp) (s : Shared) (e : Value) (s' : Shared), CX w [] H s (fun _ _ _ => False) e s' → False) :
    PySem.W.WalkO q loose XP YP l.row.toRowW d [] (fun f vs => PySem.call f vs) := by
  refine Att.attach_call hn hdf fun w s₀ s₁ mg mb fa o pm cd doc a vs ns G Y ho hd hcd hmg hobj hints hlen hg => ?_
  have KX := hY w _ Y
  obtain ⟨fd, hb, hF⟩ := F w mg fa _ KX G.T.g hmg
  exact law_call KX G.T.g G.T.b G.T.builtins G.T.nolimit hg hobj hints (Nat.le_trans hlen hn2) hr hF hb (fun H hO hS => hsp w H a ns hlen hO hS) fun H e s' => hCX w H s₁ e s'
end L2
namespace L2
open PySem PySem.Spec PyProof.Rows
def inClass (s : Stmt) (j : Nat) : Stmt := match s with
  | .ClassDef _ _ _ body _ _ _ _ _ _ _ => body.getD j (.Pass ⟨0, 0, 0, 0⟩)
  | _ => .Pass ⟨0, 0, 0, 0⟩
def defArgs (s : Stmt) : Arguments := match s with
  | .FunctionDef _ a _ _ _ _ _ _ _ _ => a
  | _ => { posonlyargs := [], args := [], vararg := none, kwonlyargs := [], kw_defaults := [], kwarg := none, defaults := [] }
def defBody (s : Stmt) : List Stmt := match s with
  | .FunctionDef _ _ b _ _ _ _ _ _ _ => b
  | _ => []
def defScope (s : Stmt) : Scope := match s with
  | .FunctionDef _ _ _ _ _ _ sc _ _ _ => sc
  | _ => { kind := .function, names := [], isGenerator := false, isCoroutine := false }
abbrev CX0 : CXT := fun _ _ _ _ _ _ => False
abbrev E0 : XK := fun _ _ _ => False
theorem pass0 {X : Cx} : Passes CX0 X E0 := fun _ _ _ _ _ _ _ h => h.elim
structure Fun (K : PySem.W.Frag) (x qual : Str) (st : Stmt) (f : Addr) (fd : FuncData) : Prop where
  ex : ∃ (oc : Value) (od : Option Addr) (kV doc pm : Value) (an : Option Addr) (cdv ct : Value) (osl : Array (Option Value)),
    fd = PySem.W.fnOf x qual (defArgs st) (defBody st) (defScope st) .none kV doc pm an cdv ct ∧ K.lookup f = some ⟨oc, od, .func fd, osl⟩ ∧ PySem.W.codeIn K cdv qual = true
  kp : PySem.W.keepIn K (.ref f) = true
section
variable {P : Program} {w : World} {K : PySem.W.Frag} {mg : Str → Option Value} {base : Heap}
theorem Fun.ok {x qual : Str} {st : Stmt} {f : Addr} {fd : FuncData} {N ps : List Str} {k : Nat} {sp : Sp} (F : Fun K x qual st f fd) (S : FnScope N ps (defScope st)) (len : ∀ vs H Q E, sp vs H Q E → vs.length = ps.length)
    (hbody : ∀ (cdv : Value) (A : Around) (outer : List Env) (s : Shared) (H : Hp) (vs : List V) (Q : VK) (E : XK), Room k (A.deeper (envOfC qual (defScope st) s.heap.objs.size f cdv)) → sp vs H Q E →
      ∃ t, PSs (cxOf CX0 P w K mg base N qual (defScope st) f cdv A outer s H E).nox (defBody st) t ∧ t { nx := fun _ H' => Q .non H', rt := Q } (start N vs) H) : FnOk P w K mg base CX0 (k + 1) f fd ps sp := by
  obtain ⟨oc, od, kV, doc, pm, an, cdv, ct, osl, rfl, lk, hcd⟩ := F.ex
  refine fn_of lk hcd S len fun A outer s H vs Q E hr hsp => ?_
  obtain ⟨t, h, q⟩ := hbody cdv A outer s H vs Q E hr hsp
  exact ⟨t, h.nox, q⟩
theorem Fun.binds {x qual : Str} {st : Stmt} {f : Addr} {fd : FuncData} {ps : List Str} (F : Fun K x qual st f fd)
    (h : ∀ (kV doc pm : Value) (an : Option Addr) (cdv ct : Value) (us : List Value), us.length = ps.length → bindArgs (PySem.W.fnOf x qual (defArgs st) (defBody st) (defScope st) .none kV doc pm an cdv ct) ⟨us, []⟩ = pure (ps.zip us)) : Binds K fd ps [] := by
  obtain ⟨oc, od, kV, doc, pm, an, cdv, ct, osl, rfl, lk, hcd⟩ := F.ex
  exact .all (h kV doc pm an cdv ct)
theorem fun_mk {x qual : Str} {st : Stmt} {f : Addr} {oc : Value} {od an : Option Addr} {osl : Array (Option Value)} {kV doc pm cdv ct : Value} (l : K.lookup f = some ⟨oc, od, .func (PySem.W.fnOf x qual (defArgs st) (defBody st) (defScope st) .none kV doc pm an cdv ct), osl⟩)
    (c : PySem.W.codeIn K cdv qual = true) (k : PySem.W.keepIn K (.ref f) = true) : Fun K x qual st f (PySem.W.fnOf x qual (defArgs st) (defBody st) (defScope st) .none kV doc pm an cdv ct) := ⟨⟨oc, od, kV, doc, pm, an, cdv, ct, osl, rfl, l, c⟩, k⟩
end
theorem hu_of {A : Around} {k : Nat} (hr : Room k A) : A.units + 1 < cLine := Nat.lt_of_le_of_lt (Nat.add_le_add_left (by decide : 1 ≤ 64) _) hr.units
section
variable {X : Cx}
theorem pv (i : Nat) {x : Str} {pos : Pos} (hN : X.N[i]? = some x := by rfl) (hv : Vis X.env.scope x := by first | exact Or.inl rfl | exact Or.inr (Or.inl rfl) | exact Or.inr (Or.inr rfl)) (hd : (x == ("__debug__" : Str)) = false := by decide)
    (hcd : (x == ("__classdict__" : Str)) = false := by decide) : PE X (.Name x pos) (tVar i) := pe_var hN hv hd hcd
end
theorem iteF {A B : Prop} (h : B) : if false = true then A else B := by
  rw [if_neg Bool.false_ne_true]
  exact h
def Same (H H' : Hp) : Prop := ∀ b o, H b = some o → H' b = some o
theorem Same.refl (H : Hp) : Same H H := fun _ _ h => h
theorem Same.trans {H H1 H2 : Hp} (a : Same H H1) (b : Same H1 H2) : Same H H2 := fun c o h => b c o (a c o h)
theorem Same.free {H H' : Hp} (e : Same H H') {l : Addr} (h : H' l = Option.none) : H l = Option.none := by
  cases q : H l with
  | none => rfl
  | some o =>
    rw [e l o q] at h
    cases h
theorem Same.seq {K : PySem.W.Frag} {H H' : Hp} {a : Addr} {xs : List V} (e : Same H H') (h : SqL K H a xs) : SqL K H' a xs := by
  rcases h with (h | ⟨o, h⟩) | h
  · exact .inl (.inl (e _ _ h))
  · exact .inl (.inr ⟨o, e _ _ h⟩)
  · exact .inr h
end L2
set_option Elab.async false
set_option linter.all false
set_option maxRecDepth 100000
namespace L2
open PySem PySem.Spec PyProof.Rows
section
variable {κ : Type} [DecidableEq κ]
def valV (kvs : List (κ × V)) (k : κ) : Option V := (kvs.find? fun kv => decide (kv.1 = k)).map (·.2)
def putK (kvs : List (κ × V)) (k : κ) (v : V) : List (κ × V) :=
  if (kvs.any fun kv => decide (kv.1 = k)) = true then kvs.map (fun kv => if kv.1 = k then (kv.1, v) else kv) else kvs ++ [(k, v)]
theorem valV_pos {p : κ × V} {r : List (κ × V)} {k : κ} (e : p.1 = k) : valV (p :: r) k = some p.2 := by simp [valV, List.find?_cons, e]
theorem valV_neg {p : κ × V} {r : List (κ × V)} {k : κ} (e : ¬ p.1 = k) : valV (p :: r) k = valV r k := by simp [valV, List.find?_cons, e]
theorem valV_any (k : κ) : ∀ kvs : List (κ × V), (kvs.any fun kv => decide (kv.1 = k)) = (valV kvs k).isSome
  | [] => rfl
  | p :: r => by
    rw [List.any_cons]
    by_cases e : p.1 = k
    · simp only [valV_pos e, decide_eq_true e, Bool.true_or, Option.isSome_some]
    · rw [valV_neg e, decide_eq_false e, Bool.false_or]; exact valV_any k r
theorem valV_map (k j : κ) (y : V) : ∀ kvs : List (κ × V), valV (kvs.map fun kv => if kv.1 = k then (kv.1, y) else kv) j = (valV kvs j).map fun x => if j = k then y else x
  | [] => rfl
  | p :: r => by
    have ih := valV_map k j y r
    rw [List.map_cons]
    by_cases h : p.1 = k
    · rw [if_pos h]
      by_cases e : p.1 = j
      · rw [valV_pos (p := (p.1, y)) e, valV_pos e, Option.map_some, if_pos (e.symm.trans h)]
      · rw [valV_neg (p := (p.1, y)) e, valV_neg e, ih]
    · rw [if_neg h]
      by_cases e : p.1 = j
      · rw [valV_pos (p := p) e, valV_pos e, Option.map_some, if_neg (fun z => h (e.trans z))]
      · rw [valV_neg (p := p) e, valV_neg e, ih]
theorem valV_snoc (k j : κ) (y : V) : ∀ kvs : List (κ × V), valV kvs k = none → valV (kvs ++ [(k, y)]) j = if j = k then some y else valV kvs j
  | [], _ => by
    by_cases e : k = j
    · rw [if_pos e.symm]; exact valV_pos (p := (k, y)) e
    · rw [if_neg (fun z => e z.symm)]; exact valV_neg (p := (k, y)) e
  | p :: r, hn => by
    rw [List.cons_append]
    have hk : ¬ p.1 = k := fun z => by rw [valV_pos z] at hn; cases hn
    rw [valV_neg hk] at hn
    have ih := valV_snoc k j y r hn
    by_cases e : p.1 = j
    · rw [valV_pos e, valV_pos e, if_neg (fun z => hk (e.trans z))]
    · rw [valV_neg e, valV_neg e, ih]
theorem valV_put (kvs : List (κ × V)) (k j : κ) (y : V) : valV (putK kvs k y) j = if j = k then some y else valV kvs j := by
  unfold putK
  by_cases a : (kvs.any fun kv => decide (kv.1 = k)) = true
  · rw [if_pos a, valV_map]
    rw [valV_any] at a
    by_cases e : j = k
    · obtain ⟨x, hx⟩ := Option.isSome_iff_exists.mp a
      rw [if_pos e, e, hx, Option.map_some, if_pos rfl]
    · rw [if_neg e]
      cases valV kvs j with
      | none => rfl
      | some x => rw [Option.map_some, if_neg e]
  · rw [if_neg a]
    refine valV_snoc k j y kvs ?_
    rw [valV_any] at a
    cases q : valV kvs k with
    | none => rfl
    | some x => rw [q] at a; exact (a rfl).elim
theorem length_putK (kvs : List (κ × V)) (k : κ) (v : V) : (putK kvs k v).length ≤ kvs.length + 1 := by
  unfold putK
  split
  · rw [List.length_map]; omega
  · rw [List.length_append, List.length_cons, List.length_nil]; omega
theorem putK_new {kvs : List (κ × V)} {k : κ} (v : V) (h : valV kvs k = none) : putK kvs k v = kvs ++ [(k, v)] := by
  unfold putK
  rw [valV_any, h]
  exact if_neg (by decide)
theorem RelO.isSome_eq {o : Option V} {u : Option Value} (r : RelO o u) : o.isSome = u.isSome := by
  cases o with
  | none => cases u with
    | none => rfl
    | some _ => exact (show False from r).elim
  | some _ => cases u with
    | none => exact (show False from r).elim
    | some _ => rfl
theorem RelO.getD {o : Option V} {u : Option Value} {d : V} {d' : Value} (r : RelO o u) (rd : RelV d d') : RelV (o.getD d) (u.getD d') := by
  cases o with
  | none => cases u with
    | none => exact rd
    | some _ => exact (show False from r).elim
  | some _ => cases u with
    | none => exact (show False from r).elim
    | some _ => exact r
theorem KV.val {kvs : List (κ × V)} {vs : List (κ × Value)} (r : KV kvs vs) (k : κ) : RelO (valV kvs k) (valueAt vs k) := by
  unfold KV at r
  induction r with
  | nil => exact True.intro
  | @cons p q ps qs h t ih =>
    obtain ⟨h1, h2⟩ := h
    by_cases e : p.1 = k
    · have e' : q.1 = k := h1.symm.trans e
      have b : valueAt (q :: qs) k = some q.2 := by simp [valueAt, List.find?_cons, e']
      rw [valV_pos e, b]; exact h2
    · have e' : ¬ q.1 = k := fun z => e (h1.trans z)
      have b : valueAt (q :: qs) k = valueAt qs k := by simp [valueAt, List.find?_cons, e']
      rw [valV_neg e, b]; exact ih
theorem KV.any {kvs : List (κ × V)} {vs : List (κ × Value)} (r : KV kvs vs) (k : κ) : (kvs.any fun kv => decide (kv.1 = k)) = vs.any fun kv => decide (kv.1 = k) := by
  unfold KV at r
  induction r with
  | nil => rfl
  | cons h t ih => rw [List.any_cons, List.any_cons, ih, h.1]
theorem KV.repl {kvs : List (κ × V)} {vs : List (κ × Value)} (r : KV kvs vs) (k : κ) {y : V} {u : Value} (ry : RelV y u) :
    KV (kvs.map fun kv => if kv.1 = k then (kv.1, y) else kv) (vs.map fun kv => if kv.1 = k then (kv.1, u) else kv) := by
  unfold KV at r ⊢
  induction r with
  | nil => exact .nil
  | @cons p q ps qs h t ih =>
    rw [List.map_cons, List.map_cons]
    refine .cons ?_ ih
    obtain ⟨h1, h2⟩ := h
    by_cases e : p.1 = k
    · rw [if_pos e, if_pos (h1.symm.trans e)]; exact ⟨h1, ry⟩
    · rw [if_neg e, if_neg (fun z => e (h1.trans z))]; exact ⟨h1, h2⟩
theorem KV.put {kvs : List (κ × V)} {vs : List (κ × Value)} (r : KV kvs vs) (k : κ) {y : V} {u : Value} (ry : RelV y u) : KV (putK kvs k y) (stored vs k u) := by
  unfold putK stored
  rw [r.any k]
  by_cases e : (vs.any fun kv => decide (kv.1 = k)) = true
  · rw [if_pos e, if_pos e]; exact r.repl k ry
  · rw [if_neg e, if_neg e]; exact Paired.snoc r ⟨rfl, ry⟩
theorem KV.length {kvs : List (κ × V)} {vs : List (κ × Value)} (r : KV kvs vs) : kvs.length = vs.length := Paired.length r
end
theorem kV_is {P : Program} {w : World} {k : Key} {u : Value} (r : RelV (kV k) u) : (mixKind P w).is k u = true := by
  cases k with
  | inl i => obtain ⟨t, e⟩ := (show ∃ t, u = Value.int i t from r); subst e; exact mixKind_int P w i t
  | inr x => obtain ⟨t, e⟩ := (show ∃ t, u = Value.str x t from r); subst e; exact mixKind_str P w x t
theorem items_are {P : Program} {w : World} : ∀ {ks : List Key} {us : List Value}, Vals (ks.map kV) us → ItemsAre (mixKind P w) ks us
  | [], _, r => by rw [List.map_nil] at r; cases r; exact .nil
  | k :: ks, _, r => by
    rw [List.map_cons] at r
    cases r with
    | cons h t => exact .cons (kV_is h) (items_are t)
abbrev KT (H : Hp) : List (List Key × V) → List (List Key × Addr × Value) → Prop := Paired fun p q => p.1 = q.1 ∧ H q.2.1 = some (.tup (p.1.map kV)) ∧ RelV p.2 q.2.2
theorem KT.val {H : Hp} {kvs : List (List Key × V)} {xs : List (List Key × Addr × Value)} (r : KT H kvs xs) (k : List Key) : RelO (valV kvs k) ((atKey xs k).map (·.2)) := by
  induction r with
  | nil => exact True.intro
  | @cons p q ps qs h t ih =>
    obtain ⟨h1, _, h2⟩ := h
    by_cases e : p.1 = k
    · have e' : q.1 = k := h1.symm.trans e
      have b : atKey (q :: qs) k = some q.2 := by simp [atKey, List.find?_cons, e']
      rw [valV_pos e, b]; exact h2
    · have e' : ¬ q.1 = k := fun z => e (h1.trans z)
      have b : atKey (q :: qs) k = atKey qs k := by simp [atKey, List.find?_cons, e']
      rw [valV_neg e, b]; exact ih
theorem KT.repl {H : Hp} {kvs : List (List Key × V)} {xs : List (List Key × Addr × Value)} (r : KT H kvs xs) (k : List Key) {y : V} {u : Value} (ry : RelV y u) :
    KT H (kvs.map fun kv => if kv.1 = k then (kv.1, y) else kv) (xs.map (putAt k u)) := by
  induction r with
  | nil => exact .nil
  | @cons p q ps qs h t ih =>
    rw [List.map_cons, List.map_cons]
    refine .cons ?_ ih
    obtain ⟨h1, h2, h3⟩ := h
    unfold putAt
    by_cases e : p.1 = k
    · rw [if_pos e, if_pos (h1.symm.trans e)]; exact ⟨h1, h2, ry⟩
    · rw [if_neg e, if_neg (fun z => e (h1.trans z))]; exact ⟨h1, h2, h3⟩
theorem KT.put {H : Hp} {kvs : List (List Key × V)} {xs : List (List Key × Addr × Value)} (r : KT H kvs xs) (k : List Key) {b : Addr} {y : V} {u : Value} (hb : H b = some (.tup (k.map kV))) (ry : RelV y u) :
    KT H (putK kvs k y) (storedH xs k b u) := by
  have e : (kvs.any fun kv => decide (kv.1 = k)) = (atKey xs k).isSome := by
    rw [valV_any, (r.val k).isSome_eq, Option.isSome_map]
  unfold putK storedH
  rw [e]
  by_cases q : (atKey xs k).isSome = true
  · rw [if_pos q, if_pos q]; exact r.repl k ry
  · rw [if_neg q, if_neg q]; exact Paired.snoc r ⟨rfl, hb, ry⟩
theorem KT.keeps {H H' : Hp} {kvs : List (List Key × V)} {xs : List (List Key × Addr × Value)} (r : KT H kvs xs) (ht : ∀ b ys, H b = some (.tup ys) → H' b = some (.tup ys)) : KT H' kvs xs :=
  Paired.mapP r fun _ _ z => ⟨z.1, ht _ _ z.2.1, z.2.2⟩
section
variable {P : Program} {w : World} {H : Hp} {h : Heap} {a : Addr}
theorem rd_of {u : HO} (ok : HOk P w H h) (e : Rd H a u) : ObjOk P w H h a u := e.ok ok
theorem dk_rd {kvs : List (Key × V)} (ok : HOk P w H h) (e : Rd H a (.dK kvs)) : kvs.length ≤ sizeLine ∧ (a == sysModules) = false ∧ ∃ vs, KV kvs vs ∧ h.DictOf (mixKind P w) a vs :=
  show ObjOk P w H h a (.dK kvs) from rd_of ok e
theorem dk_of {kvs : List (Key × V)} (ok : HOk P w H h) (e : H a = some (.dK kvs)) : kvs.length ≤ sizeLine ∧ (a == sysModules) = false ∧ ∃ vs, KV kvs vs ∧ h.DictOf (mixKind P w) a vs := dk_rd ok (.inl e)
theorem key_of {ks : List Key} (ok : HOk P w H h) (e : H a = some (.tup (ks.map kV))) : (tupleKind (mixKind P w)).is h ks a := by
  obtain ⟨_, its, r, o, h1, h2, n, h3⟩ := (show ObjOk P w H h a (.tup (ks.map kV)) from ok a _ e)
  exact ⟨o, its.toArray, n, h1, h2, h3, by simpa using items_are r⟩
theorem dt_rd {kvs : List (List Key × V)} (ok : HOk P w H h) (e : Rd H a (.dT kvs)) : kvs.length ≤ sizeLine ∧ (a == sysModules) = false ∧
    ∃ xs, KT H kvs xs ∧ h.DictOfH (tupleKind (mixKind P w)) a xs := by
  obtain ⟨z, y, xs, r, o, es, ep, h1, h2, h3, h4, h5⟩ := (show ObjOk P w H h a (.dT kvs) from rd_of ok e)
  refine ⟨z, y, xs, r, o, es, ep, h1, h2, h3, h4, fun x hx => ?_, h5⟩
  have all : ∀ {l : List (List Key × V)} {m : List (List Key × Addr × Value)}, KT H l m → ∀ x ∈ m, (tupleKind (mixKind P w)).is h x.1 x.2.1 := by
    intro l m q
    induction q with
    | nil => intro x hx; exact nomatch hx
    | @cons p q ps qs hq t ih =>
      intro x hx
      rcases List.mem_cons.mp hx with e | hx
      · subst e
        exact key_of ok (by rw [← hq.1]; exact hq.2.1)
      · exact ih x hx
  exact all r x hx
theorem dt_of {kvs : List (List Key × V)} (ok : HOk P w H h) (e : H a = some (.dT kvs)) : kvs.length ≤ sizeLine ∧ (a == sysModules) = false ∧
    ∃ xs, KT H kvs xs ∧ h.DictOfH (tupleKind (mixKind P w)) a xs := dt_rd ok (.inl e)
end
def DGet (H : Hp) (a : Addr) (y : V) (r : Option V) : Prop :=
  (∃ kvs k, Rd H a (.dK kvs) ∧ y = kV k ∧ r = valV kvs k) ∨ ∃ kvs k b, Rd H a (.dT kvs) ∧ y = .ref b ∧ H b = some (.tup (k.map kV)) ∧ r = valV kvs k
def DPut (H : Hp) (a : Addr) (y v : V) (H' : Hp) : Prop :=
  (∃ kvs k, H a = some (.dK kvs) ∧ y = kV k ∧ kvs.length < sizeLine ∧ H' = upd H a (.dK (putK kvs k v))) ∨
  ∃ kvs k b, H a = some (.dT kvs) ∧ y = .ref b ∧ H b = some (.tup (k.map kV)) ∧ kvs.length < sizeLine ∧ H' = upd H a (.dT (putK kvs k v))
theorem DGet.k {H : Hp} {a : Addr} {kvs : List (Key × V)} {k : Key} (e : H a = some (.dK kvs)) : DGet H a (kV k) (valV kvs k) := .inl ⟨kvs, k, .inl e, rfl, rfl⟩
theorem DPut.k {H : Hp} {a : Addr} {kvs : List (Key × V)} {k : Key} {v : V} (e : H a = some (.dK kvs)) (hl : kvs.length < sizeLine) : DPut H a (kV k) v (upd H a (.dK (putK kvs k v))) := .inl ⟨kvs, k, e, rfl, hl, rfl⟩
section
variable {X : Cx} {pins : List (Addr × Obj)} {σ : St} {H : Hp} {s : Shared} {a : Addr} {y v : V} {u r : Value} {o : Option V} {A : Around} {E : Value → Shared → Prop}
theorem Inv.big (I : Inv X pins σ H s) : sysModules < s.heap.objs.size := by
  have h : mainGlobals < s.heap.objs.size := (I.mod.glob.keeps I.bk).lt
  exact Nat.lt_trans (by decide) h
theorem d_getItem {Q : Value → Shared → Prop} (hu : A.units + 1 < cLine) (I : Inv X pins σ H s) (g : DGet H a y (some v)) (ry : RelV y u) (h : ∀ w' s', Inv X pins σ H s' → RelV v w' → Q w' s') :
    wpAny (model X.prog X.w) A (getItem (.ref a) u) Q E s := by
  rcases g with ⟨kvs, k, e, ey, l⟩ | ⟨kvs, k, b, e, ey, eb, l⟩
  · subst ey
    obtain ⟨z, hd, vs, rel, dd⟩ := dk_rd I.hok e
    obtain ⟨w', hw, rw'⟩ := RelO.some_of (v := v) (o := valueAt vs k) (by rw [l]; exact rel.val k)
    exact wpAny_getItem_of (kV_is ry) dd.mapOf hw (h w' _ (I.tok _) rw')
  · subst ey
    cases (show u = Value.ref b from ry)
    obtain ⟨z, hd, xs, rel, dd⟩ := dt_rd I.hok e
    obtain ⟨w', hw, rw'⟩ := RelO.some_of (v := v) (o := (atKey xs k).map (·.2)) (by rw [l]; exact rel.val k)
    obtain ⟨p, hp, hp2⟩ := Option.map_eq_some_iff.mp hw
    refine wpAny_getItem_heap (tupleKind_room_in1 hu) (key_of I.hok eb) dd hp ?_
    rw [hp2]
    exact h w' _ (I.tok _) rw'
theorem d_notIn {Q : Value → Shared → Prop} (hu : A.units + 1 < cLine) (I : Inv X pins σ H s) (g : DGet H a y o) (ry : RelV y u) (h : ∀ s', Inv X pins σ H s' → Q (.bool (!o.isSome)) s') :
    wpAny (model X.prog X.w) A (compareOp .NotIn u (.ref a)) Q E s := by
  rcases g with ⟨kvs, k, e, ey, l⟩ | ⟨kvs, k, b, e, ey, eb, l⟩
  · subst ey
    obtain ⟨z, hd, vs, rel, dd⟩ := dk_rd I.hok e
    refine wpAny_notIn_of (kV_is ry) hd dd.mapOf ?_
    rw [← (rel.val k).isSome_eq, ← l]
    exact h _ (I.tok _)
  · subst ey
    cases (show u = Value.ref b from ry)
    obtain ⟨z, hd, xs, rel, dd⟩ := dt_rd I.hok e
    refine wpAny_notIn_heap (tupleKind_room_in1 hu) (key_of I.hok eb) hd dd ?_
    have q := (rel.val k).isSome_eq
    rw [Option.isSome_map] at q
    rw [← q, ← l]
    exact h _ (I.tok _)
theorem d_write {h' : Heap} {t' : Nat} {ob : HO} (I : Inv X pins σ H s) (mu : Mut (H a)) (hs : Heap.SameBut a s.heap h') (he : ∃ q, h'.get? a = some q) (new : ObjOk X.prog X.w (upd H a ob) h' a ob) :
    Inv X pins σ (upd H a ob) { s with heap := h', toks := t' } :=
  I.write (x := a) (e := a) mu (.inl rfl) (fun b q hb z => (hs.2 b hb).trans z) he new
theorem dk_new {P : Program} {w : World} {H' : Hp} {h' : Heap} {kvs : List (Key × V)} {vs : List (Key × Value)} (z : kvs.length ≤ sizeLine) (hd : (a == sysModules) = false) (rel : KV kvs vs) (dd : h'.DictOf (mixKind P w) a vs) :
    ObjOk P w H' h' a (.dK kvs) := ⟨z, hd, vs, rel, dd⟩
theorem d_setItem {H' : Hp} {Q : Unit → Shared → Prop} (hu : A.units + 1 < cLine) (I : Inv X pins σ H s) (g : DPut H a y v H') (ry : RelV y u) (rv : RelV v r) (h : ∀ s', Inv X pins σ H' s' → Q () s') :
    wpAny (model X.prog X.w) A (setItem (.ref a) u r) Q E s := by
  rcases g with ⟨kvs, k, e, ey, l, eH⟩ | ⟨kvs, k, b, e, ey, eb, l, eH⟩
  · subst ey eH
    obtain ⟨z, hd, vs, rel, dd⟩ := dk_of I.hok e
    have hz : vs.length ≤ sizeLine := by rw [← rel.length]; exact z
    have hl : (putK kvs k v).length ≤ sizeLine := by have := length_putK kvs k v; omega
    refine wpAny_setItem_pairs (hsz := hz) (kV_is ry) dd fun h' dd' hs => h _ ?_
    have he : ∃ q, h'.get? a = some q := let ⟨q, _, _, hq, _⟩ := dd'; ⟨q, hq⟩
    exact d_write I (by rw [e]; exact True.intro) hs he (dk_new hl hd (rel.put k rv) dd')
  · subst ey eH
    cases (show u = Value.ref b from ry)
    obtain ⟨z, hd, xs, rel, dd⟩ := dt_of I.hok e
    have hz : xs.length ≤ sizeLine := by rw [← Paired.length rel]; exact z
    have hl : (putK kvs k v).length ≤ sizeLine := by have := length_putK kvs k v; omega
    refine wpAny_setItem_heap (hsz := hz) (tupleKind_room_in1 hu) (key_of I.hok eb) dd fun h' dd' hs => h _ ?_
    obtain ⟨q, es, ep, hq, h2, h3, h4, _, h5⟩ := dd'
    refine d_write I (by rw [e]; exact True.intro) hs ⟨q, hq⟩ ⟨hl, hd, _, (rel.put k eb rv).keeps fun c ys ec => ?_, q, es, ep, hq, h2, h3, h4, h5⟩
    rw [upd_ne (ne_of ec e (fun z => nomatch z))]
    exact ec
end
section
variable {X : Cx} {pins : List (Addr × Obj)} {σ : St} {H : Hp} {s : Shared} {a : Addr} {kvs : List (Key × V)} {k : Key} {u : Value} {A : Around} {E : Value → Shared → Prop}
end
def NoSl (i : Expr) : Prop := ∀ ov iv, subscripted i false ov iv = operate [ov, iv] (getItem ov iv)
theorem subD_of {prog : Program} {w : World} {A : Around} {E : Value → Shared → Prop} {s : Shared} {env : Env} {value slice : Expr} {pos : Pos} {T id : String} {Q : Value → Shared → Prop}
    (hl : typeLookup (.type T) "__getitem__" = pure (some (.builtin id))) (hs : NoSl slice)
    (h : wpAny (model prog w) A (eval value env) (fun o s₁ => wpAny (model prog w) A (eval slice env) (fun i s₂ => s₂.TypeIs o T ∧ wpAny (model prog w) A (getItem o i) Q E s₂) E s₁) E s) :
    wpAny (model prog w) A (eval (.Subscript value slice pos) env) Q E s := by
  refine Subscript_ (wpAny_mono h (fun o s₁ h₁ => wpAny_mono h₁ (fun i s₂ h₂ => ?_) fun _ _ x => x) fun _ _ x => x)
  obtain ⟨hT, h₂⟩ := h₂
  unfold subscriptTail
  refine wpAny_bind ?_
  rw [getitemInPython_of_ne hT.not_modules]
  refine wpAny_bind (wpAny_specialOf hT hl ?_)
  have fin : wpAny (model prog w) A (subscripted slice false o i) (fun r s₃ => wpAny (model prog w) A (letTemporaryGo value o r >>= fun _ => pure r) Q E s₃) E s₂ := by
    rw [hs o i]
    exact wpAny_operating (wpAny_mono h₂ (fun r s₃ h₃ => wpAny_bind (wpAny_letTemporaryGo (wpAny_pure h₃))) fun _ _ x => x)
  first
    | exact wpAny_pure (wpAny_bind fin)
    | exact wpAny_bind (wpAny_pure (wpAny_bind fin))
    | exact wpAny_bind fin
theorem dict_typeIs {X : Cx} {pins : List (Addr × Obj)} {σ : St} {H : Hp} {s : Shared} {a : Addr} {y : V} {o : Option V} (I : Inv X pins σ H s) (g : DGet H a y o) : s.TypeIs (.ref a) "dict" := by
  rcases g with ⟨kvs, k, e, _, _⟩ | ⟨kvs, k, b, e, _, _, _⟩
  · obtain ⟨_, _, vs, _, dd⟩ := dk_rd I.hok e
    exact dd.typeIs
  · obtain ⟨_, _, xs, _, dd⟩ := dt_rd I.hok e
    exact dd.typeIs
def tDGet (td ty : TE) : TE := fun σ H Q => td σ H fun x H1 => ty σ H1 fun y H2 => ∃ a v, x = .ref a ∧ DGet H2 a y (some v) ∧ Q v H2
def tDNotIn (ty td : TE) : TE := fun σ H Q => ty σ H fun y H1 => td σ H1 fun x H2 => ∃ a o, x = .ref a ∧ DGet H2 a y o ∧ Q (.bl (!o.isSome)) H2
def sDPut (td ty tv : TE) : TS := fun D σ H => tv σ H fun v H1 => td σ H1 fun x H2 => ty σ H2 fun y H3 => ∃ a H4, x = .ref a ∧ DPut H3 a y v H4 ∧ D.nx σ H4
section
variable {X : Cx} {o i e value : Expr} {pos pos' tpos : Pos} {td ty tv : TE}
theorem pe_dget (hu : X.A.units + 1 < cLine) (ho : PE X o td) (hi : PE X i ty) (hs : NoSl i) : PE X (.Subscript o i pos) (tDGet td ty) := by
  intro pins s σ H Q I h
  refine subD_of PySem.F.slot_dict_getitem.lookup hs (thn (ho pins s σ H _ I h) fun u s1 ⟨x, H1, I1, rx, q1⟩ => thn (hi pins s1 σ H1 _ I1 q1) fun iv s2 ⟨y, H2, I2, ry, a, v, ex, g, q2⟩ => ?_)
  subst ex
  obtain rfl : u = Value.ref a := rx
  exact ⟨dict_typeIs I2 g, d_getItem hu I2 g ry fun w' s3 I3 rw' => ⟨v, H2, I3, rw', q2⟩⟩
theorem pc_dnotin (hu : X.A.units + 1 < cLine) (hi : PE X i ty) (ho : PE X o td) : PC X .NotIn i o (tDNotIn ty td) := by
  intro pins s σ H Q I h
  refine thn (hi pins s σ H _ I h) fun iv s1 ⟨y, H1, I1, ry, q1⟩ => thn (ho pins s1 σ H1 _ I1 q1) fun u s2 ⟨x, H2, I2, rx, a, ov, ex, g, q2⟩ => ?_
  subst ex
  obtain rfl : u = Value.ref a := rx
  exact d_notIn hu I2 g ry fun s3 I3 => ⟨.bl (!ov.isSome), H2, I3, rfl, q2⟩
theorem ps_dput (hu : X.A.units + 1 < cLine) (ho : PE X o td) (hi : PE X i ty) (hv : PE X value tv) (hs : swapsWith value (some (.Subscript o i pos')) pos.line X.env = pure false) :
    PS X (.Assign [.Subscript o i pos'] value pos) (sDPut td ty tv) := by
  intro pins s σ H D I h
  refine wpAny_Assign_Subscript (thn (hv pins s σ H _ I h) fun r s1 ⟨v, H1, I1, rv, q1⟩ => thn (ho pins s1 σ H1 _ I1 q1) fun u s2 ⟨x, H2, I2, rx, q2⟩ => thn (hi pins s2 σ H2 _ I2 q2) fun iv s3 ⟨y, H3, I3, ry, a, H4, ex, g, q3⟩ => ?_) hs
  subst ex
  obtain rfl : u = Value.ref a := rx
  exact d_setItem hu I3 g ry rv fun s4 I4 => ⟨σ, H4, I4, q3⟩
end
theorem dk_empty {P : Program} {w : World} {H : Hp} (h : Heap) (hb : sysModules < h.objs.size) : ObjOk P w H (h.push { cls := .type "dict", data := .dict #[] }) h.objs.size (.dK []) :=
  ⟨Nat.zero_le _, beq_eq_false_iff_ne.mpr (Ne.symm (Nat.ne_of_lt hb)), [], .nil, Heap.DictOf.new h⟩
def tDNewK : TE := fun _ H Q => ∀ p, H p = none → Q (.ref p) (upd H p (.dK []))
section
variable {X : Cx} {pos : Pos}
theorem pe_dnewK : PE X (.Dict [] [] pos) tDNewK := fun pins s σ H Q I h =>
  wpAny_Dict_empty ⟨.ref s.heap.objs.size, _, I.laid (a := s.heap.objs.size) (o := .dK []) (t' := s.toks) (fun _ _ q => Heap.get?_push_of_some _ q) (Nat.le_refl _) (dk_empty s.heap I.big), rfl, h _ (I.hok.fresh (Nat.le_refl _))⟩
end
structure M2 (X : Cx) (o : Expr) (m : Str) (apos : Pos) (e f : Expr) (cpos : Pos) : Prop where
  base : attributeBase o m X.env (eval o X.env) = eval o X.env
  few : ((backTo cpos (starEach [e, f] X.env)).all (fun x => !x.1) && (backToKw cpos (keywordEach [] X.env)).all (fun x => x.1.isSome)
    && decide (([e, f] : List Expr).length + ([] : List Keyword).length + (if ([] : List Keyword).isEmpty then 0 else 1) < 30)) = true
  line : (apos.endLine == cpos.line) = true
  trees : backTo cpos (starEach [e, f] X.env) = [(false, eval e X.env), (false, eval f X.env)]
def IsD (H : Hp) (a : Addr) : Prop := (∃ kvs, Rd H a (.dK kvs)) ∨ ∃ kvs, Rd H a (.dT kvs)
theorem isD_at {X : Cx} {pins : List (Addr × Obj)} {σ : St} {H : Hp} {s : Shared} {a : Addr} (I : Inv X pins σ H s) (d : IsD H a) :
    s.TypeIs (.ref a) "dict" ∧ (∀ b, Value.ref a = .ref b → ∃ ob, s.heap.get? b = some ob ∧ ob.dict = none) ∧ (a == sysModules) = false := by
  rcases d with ⟨kvs, e⟩ | ⟨kvs, e⟩
  · obtain ⟨_, hd, vs, _, dd⟩ := dk_rd I.hok e
    refine ⟨dd.typeIs, fun b q => ?_, hd⟩
    cases q
    obtain ⟨ob, _, _, h1, h2, _⟩ := dd
    exact ⟨ob, h1, h2.2.1⟩
  · obtain ⟨_, hd, xs, _, dd⟩ := dt_rd I.hok e
    refine ⟨dd.typeIs, fun b q => ?_, hd⟩
    cases q
    obtain ⟨ob, _, _, h1, h2, _⟩ := dd
    exact ⟨ob, h1, h2.2.1⟩
section
variable {X : Cx} {pins : List (Addr × Obj)} {σ : St} {H : Hp} {s : Shared} {a : Addr} {y d : V} {u r : Value} {o : Option V} {A : Around} {E : Value → Shared → Prop}
theorem d_get2 {Q : Value → Shared → Prop} (hu : A.units + 1 < cLine) (I : Inv X pins σ H s) (g : DGet H a y o) (ry : RelV y u) (rd : RelV d r) (h : ∀ w' s', Inv X pins σ H s' → RelV (o.getD d) w' → Q w' s') :
    wpAny (model X.prog X.w) A (call (.builtin "dict.get") [.ref a, u, r]) Q E s := by
  rcases g with ⟨kvs, k, e, ey, l⟩ | ⟨kvs, k, b, e, ey, eb, l⟩
  · subst ey
    obtain ⟨z, hd, vs, rel, dd⟩ := dk_rd I.hok e
    refine call_meetsIn PySem.F.slot_dict_get dd.typeIs PySem.F.entry_dict_get (PySem.F.args_dict_get_3 _ _ _) (meets_dict_get_default (mixKind X.prog X.w) a (kV_is ry) hd r) ⟨_, dd.mapOf, h _ _ (I.tok _) ?_⟩
    rw [l]
    exact (rel.val k).getD rd
  · subst ey
    cases (show u = Value.ref b from ry)
    obtain ⟨z, hd, xs, rel, dd⟩ := dt_rd I.hok e
    refine call_meetsIn PySem.F.slot_dict_get dd.typeIs PySem.F.entry_dict_get (PySem.F.args_dict_get_3 _ _ _) (meetsH_dict_get_default (tupleKind (mixKind X.prog X.w)) a b hd r) ⟨tupleKind_room_in1 hu, k, xs, key_of I.hok eb, dd, h _ _ (I.tok _) ?_⟩
    rw [l]
    exact (rel.val k).getD rd
end
def tDGet2 (td ty tx : TE) : TE := fun σ H Q => td σ H fun x H1 => ∃ a, x = .ref a ∧ IsD H1 a ∧ ty σ H1 fun y H2 => tx σ H2 fun z H3 => ∃ o, DGet H3 a y o ∧ Q (o.getD z) H3
section
variable {X : Cx} {o e f : Expr} {apos cpos : Pos} {td ty tx : TE}
theorem pe_dget2 (hu : X.A.units + 1 < cLine) (ho : PE X o td) (he : PE X e ty) (hf : PE X f tx) (m : M2 X o "get" apos e f cpos) : PE X (.Call (.Attribute o "get" apos) [e, f] [] cpos) (tDGet2 td ty tx) := by
  intro pins s σ H Q I h
  refine wpAny_Call_method m.base m.few m.line PySem.F.plainAttrs_dict PySem.F.slot_dict_get PySem.F.type_dict_get (thn (ho pins s σ H _ I h) fun u s1 ⟨x, H1, I1, rx, a, ex, d, q1⟩ => ?_)
  subst ex
  obtain rfl : u = Value.ref a := rx
  obtain ⟨t1, t2, _⟩ := isD_at I1 d
  refine ⟨t1, t2, ?_⟩
  rw [m.trees]
  refine Calls.callWith_builtin rfl (Calls.evalArgs_plain (Calls.spliced_cons (thn (he pins s1 σ H1 _ I1 q1) fun iv s2 ⟨y, H2, I2, ry, q2⟩ =>
    Calls.spliced_cons (thn (hf pins s2 σ H2 _ I2 q2) fun fv s3 ⟨z, H3, I3, rz, ov, g, q3⟩ => Calls.spliced_nil ?_))))
  exact d_get2 hu I3 g ry rz fun w' s4 I4 rw' => ⟨_, H3, I4, rw', q3⟩
end
section
variable {X : Cx} {pins : List (Addr × Obj)} {σ : St} {H : Hp} {s : Shared} {a : Addr} {kvs : List (Key × V)} {A : Around} {E : Value → Shared → Prop}
end
section
variable {X : Cx} {pins : List (Addr × Obj)} {σ : St} {H : Hp} {s : Shared} {a : Addr} {y : V} {u : Value} {A : Around} {E : Value → Shared → Prop}
end
end L2
namespace L2
open PySem PySem.Spec PyProof.Rows
section
variable {X : Cx}
end
section
variable {κ : Type} [DecidableEq κ]
end
end L2
set_option maxRecDepth 100000
namespace Xc
open PySem
section
variable {M : Model} {A : Around} {E : Value → Shared → Prop} {s : Shared} {base : Heap} {env : Env} {outer : List Env} {L e C : Addr} {dd : Option Addr} {tb : Value} {Q : Unit → Shared → Prop}
end
end Xc
set_option maxRecDepth 100000
namespace Xc
open PySem PySem.W
section
variable {prog : Program} {w : World} {A : Around} {E : Value → Shared → Prop} {h : Heap} {g : Array GenState} {d : Drawn} {t : Nat} {os : OsState}
variable {nm q : Str} {C N fI : Addr} {bs bm bmB bmN : List Value} {hdct : Bool} {sn : List Str} {sub : List Value} {ab : Bool} {col : Option Bool} {dd : Option Addr} {k0 k1 k2 k3 k5 : Option Value} {B Bn newId nid initId inN : String}
  {us : List Value}
end
end Xc
set_option maxRecDepth 100000
namespace Xc
open PySem Builtin Builtin.ObjectAttr
section
variable {M : Model} {A : Around} {E : Value → Shared → Prop} {s : Shared} {x C : Addr} {o : Obj} {cd : ClassData} {name : Str} {v : Value} {tk : Tok}
end
end Xc
set_option maxRecDepth 100000
namespace Xc
open PySem PySem.W PySem.Calls PyProof.Rows Builtin Builtin.ObjectAttr
section
variable {prog : Program} {w : World} {A : Around} {E : Value → Shared → Prop} {s : Shared} {K : Frag} {x C : Addr} {ox : Obj} {od : Option Obj} {name : Str}
end
section
variable {M : Model} {A : Around} {E : Value → Shared → Prop} {s : Shared} {K : Frag} {C W e : Addr} {oe : Obj}
end
section
variable {M : Model} {A : Around} {E : Value → Shared → Prop} {s : Shared} {K : PySem.W.Frag} {env : Env}
end
end Xc
set_option maxRecDepth 100000
namespace L2
open PySem PySem.Spec PyProof.Rows Xc
section
variable {P : Program} {w : World} {H : Hp} {h : Heap} {e C T dx : Addr} {dd : Option Addr} {tb fl : Value} {fs : List (Str × V)}
end
section
variable {X : Cx} {pins : List (Addr × Obj)} {σ : St} {H : Hp} {s : Shared} {a C dx T : Addr} {dd : Option Addr} {tb fl : Value} {fs : List (Str × V)} {f : Str} {v : V} {A : Around} {E : Value → Shared → Prop}
end
section
variable {X : Cx} {pins : List (Addr × Obj)} {σ : St} {H : Hp} {s : Shared} {a C dx : Addr} {tb : Value} {fs : List (Str × V)} {A : Around} {E : Value → Shared → Prop} {Q : Value → Shared → Prop} {c : Value} {b : Bool}
end
end L2
namespace L2
open PySem PySem.Spec PyProof.Rows
def PIfs (X : Cx) (ifs : List Expr) (t : TT) : Prop :=
  ∀ (pins : List (Addr × Obj)) (s : Shared) (σ : St) (H : Hp) (Q : Bool → Hp → Prop), Inv X pins σ H s → t σ H Q →
    wpAny (model X.prog X.w) X.A (forIn ifs true fun c r => if r = true then do let ok ← isTrue c X.env (eval c X.env); pure (ForInStep.yield ok) else pure (ForInStep.yield r)) (TP X pins σ Q) X.xe s
def tYes : TT := fun _ H Q => Q true H
theorem pifs_nil {X : Cx} : PIfs X [] tYes := fun pins s σ H Q I h => by
  rw [List.forIn_nil]
  exact wpAny_pure ⟨H, I, h⟩
structure CompSc (X : Cx) (scope : Scope) (cl : List (Str × Addr)) (x : Str) (fr : List Nat) (N' : List Str) : Prop where
  clos : closureFor scope X.env = pure cl
  nocell : ∀ y ∈ scope.names, y.2 ≠ .cell
  kind : scope.kind = .function
  names : ∀ y ∈ scope.names, y.2 = .local → scope.names.lookup y.1 = some .local
  var : scope.names.lookup x = some .local
  nd : N'.Nodup
  head : N'[0]? = some x
  len : N'.length = fr.length + 1
  free : ∀ i j, fr[i]? = some j → ∃ y, X.N[j]? = some y ∧ N'[i + 1]? = some y ∧ (X.env.kindOf y = some .cell ∨ X.env.kindOf y = some .free) ∧ cl.lookup y = X.env.cells.lookup y ∧
    ((relabel scope X.env).names.lookup y = some .cell ∨ (relabel scope X.env).names.lookup y = some .free)
  sub : ∀ y c, cl.lookup y = some c → X.env.cells.lookup y = some c
  has : ∀ y, ((relabel scope X.env).names.lookup y = some .cell ∨ (relabel scope X.env).names.lookup y = some .free) → ∃ c, cl.lookup y = some c
def cxComp (X : Cx) (pins : List (Addr × Obj)) (scope : Scope) (cl : List (Str × Addr)) (C : Addr) (N' : List Str) (fp : List Addr) (s : Shared) (H : Hp) : Cx :=
  { X with env := compEnvC scope cl C X.env, N := N', s₀ := s, H₀ := H, outer := X.stack, ex := fp, fn := fun _ => false, pn := X.pn ++ pins, xe := fun _ _ => False }
def inn (fr : List Nat) (σ : St) (v : Option V) : St := v :: fr.map fun j => (σ[j]?).join
def tComp (wi : TI) (fr : List Nat) (tt : TT) (te : TE) : TE := fun σ H Q => wi σ H fun J H1 => ∀ D, H1 D = none → ∃ W : Nat → Nat → List V → Hp → Prop, (∃ m, W 0 m [] (upd H1 D (.lst []))) ∧
  ∀ i m ys H, W i m ys H → (J.stop i H ∧ Q (.ref D) H) ∨ (J.go i H ∧ ∀ x H', J.yld i H x H' → tt (inn fr σ (some x)) H' fun c H2 => if c = true then te (inn fr σ (some x)) H2 fun v H3 =>
    H3 D = some (.lst ys) ∧ ys.length < sizeLine ∧ ∃ m', m' < m ∧ W (i + 1) m' (ys ++ [v]) (upd H3 D (.lst (ys ++ [v]))) else ∃ m', m' < m ∧ W (i + 1) m' ys H2)
section
variable {X : Cx} {scope : Scope} {cl : List (Str × Addr)} {x : Str} {fr : List Nat} {N' : List Str} {pins : List (Addr × Obj)} {σ : St} {H : Hp} {s : Shared} {fp : List Addr} {C : Addr}
theorem cxComp_ok (S : CompSc X scope cl x fr N') (I : Inv X pins σ H s) (hf : ∀ b ∈ fp, FpOk X pins H b) (hlt : ∀ b ∈ fp, b < s.heap.objs.size) (hC : s.heap.objs.size ≤ C) : (cxComp X pins scope cl C N' fp s H).Ok := by
  have lt : ∀ b ∈ fp, b ∉ frs X.stack := fun b hb z => by
    obtain ⟨_, f1, f2, _⟩ := hf b hb
    rcases List.mem_cons.mp (I.stkSub b z) with e | e
    · exact f1 e
    · exact f2 e
  refine ⟨I.ok.mod, S.kind, I.ok.glob, I.ok.blt, hC, fun y z c h1 h2 => I.ok.inj y z c (S.sub y c h1) (S.sub z c h2), fun y hy => S.has y hy, fun _ _ z => Bool.noConfusion z, I.ok.hd, I.ok.frames, .inl rfl, fun b hb => ⟨?_, fun y c e => ?_⟩, fun b o e => I.bs b o e,
    Nat.le_trans I.ok.bsz I.sz, fun b o e hb => ?_, lt, I.stack, I.stkFree⟩
  · exact Nat.ne_of_lt (Nat.lt_of_lt_of_le (hlt b hb) hC)
  · exact (hf b hb).2.2.2.2.1 y c (S.sub y c e)
  · rcases (hf b hb).2.2.2.1 with z | z
    · exact I.ok.noex b o e z
    · exact absurd (Nat.lt_of_lt_of_le (Heap.lt_size e) (Nat.le_trans I.ok.bsz z)) (Nat.lt_irrefl _)
theorem comp_start {h1 : Heap} {D : Addr} {t' : Nat} {m : Str → Option Value} (S : CompSc X scope cl x fr N') (I : Inv X pins σ H s) (hf : ∀ b ∈ fp, FpOk X pins H b) (hlt : ∀ b ∈ fp, b < s.heap.objs.size)
    (hD : D = s.heap.objs.size) (hC : C = s.heap.objs.size + 1) (hn : h1.Ns C m) (keep : ∀ b o, s.heap.get? b = some o → h1.get? b = some o) (new : h1.get? D = some { cls := .type "list", data := .seq #[] 0 }) :
    Inv (cxComp X pins scope cl C N' fp s H) [] (inn fr σ none) (upd H D (.lst [])) { s with heap := h1, toks := t' } := by
  have hCl : s.heap.objs.size ≤ C := by rw [hC]; exact Nat.le_succ _
  have nCD : C ≠ D := by rw [hC, hD]; exact Nat.ne_of_gt (Nat.lt_succ_self _)
  have hDn : H D = none := by rw [hD]; exact I.hok.fresh (Nat.le_refl _)
  have neD : ∀ b o, s.heap.get? b = some o → b ≠ D := fun b o e => by rw [hD]; exact Nat.ne_of_lt (Heap.lt_size e)
  have okD : HOk X.prog X.w (upd H D (.lst [])) h1 := I.hok.laid keep (by rw [hD]; exact Nat.le_refl _) ⟨Nat.zero_le _, [], 0, .nil, new⟩
  refine ⟨cxComp_ok S I hf hlt hCl, rfl, I.bare, Un.laid keep (by rw [hD]; exact Nat.le_refl _) hDn, ⟨m, hn, fun i y v e1 e2 e3 => ?_⟩, fun y c e => ?_, ?_, fun y c e => ?_, fun p hp => ?_, okD, ?_⟩
  · cases i with
    | zero => exact absurd e2 (by simp [inn])
    | succ i =>
      have e2' : (fr.map fun j => (σ[j]?).join)[i]? = some (some v) := e2
      rw [List.getElem?_map] at e2'
      cases q : fr[i]? with
      | none => rw [q] at e2'; cases e2'
      | some j =>
        rw [q] at e2'
        obtain ⟨y', n1, n2, k1, k2, k3⟩ := S.free i j q
        have ey : y' = y := Option.some.inj (n2.symm.trans e1)
        subst ey
        have sj : σ[j]? = some (some v) := by
          have z : (σ[j]?).join = some v := Option.some.inj e2'
          cases r : σ[j]? with
          | none => rw [r] at z; cases z
          | some w => rw [r] at z; exact congrArg some z
        obtain ⟨m0, _, hl⟩ := I.loc
        have vis : Vis X.env.scope y' := by
          rcases k1 with k | k
          · exact .inr (.inl k)
          · exact .inr (.inr k)
        obtain ⟨u, ru, lk⟩ := hl j y' v n1 sj vis
        refine ⟨u, ru, .inr ⟨k3, ?_⟩⟩
        rcases lk with ⟨k, _⟩ | ⟨_, c, ec, ic⟩
        · rcases k1 with k' | k' <;> (rw [k'] at k; cases k)
        · refine ⟨c, k2.trans ec, ?_⟩
          obtain ⟨oc, hoc, hd⟩ := ic
          exact ⟨oc, keep c oc hoc, hd⟩
  · obtain ⟨v, oc, hoc, hd⟩ := I.cell y c (S.sub y c e)
    exact ⟨v, oc, keep c oc hoc, hd⟩
  · show upd H D (.lst []) C = none
    rw [upd_ne nCD]
    exact I.hok.fresh hCl
  · obtain ⟨v, oc, hoc, hd⟩ := I.cell y c (S.sub y c e)
    rw [upd_ne (neD c oc hoc)]
    exact I.freeC y c (S.sub y c e)
  · have hp' : p ∈ X.pn ++ pins := by
      rcases List.mem_append.mp hp with z | z
      · exact z
      · exact absurd z (by simp)
    obtain ⟨e, n, ne, nf, d⟩ := I.pin p hp'
    refine ⟨keep _ _ e, ?_, ?_, fun z => ?_, d⟩
    · rw [upd_ne (neD _ _ e)]; exact n
    · exact Nat.ne_of_lt (Nat.lt_of_lt_of_le (Heap.lt_size e) hCl)
    · rcases List.mem_cons.mp (I.stkSub p.1 z) with q | q
      · exact ne q
      · exact nf q
  · show (inn fr σ none).length = N'.length
    rw [S.len]
    simp [inn]
theorem comp_end {H' : Hp} {s' : Shared} {h' : Heap} {σ' : St} (I : Inv X pins σ H s) (hf : ∀ b ∈ fp, FpOk X pins H b) (hC : s.heap.objs.size ≤ C) (J : Inv (cxComp X pins scope cl C N' fp s H) [] σ' H' s') (sb : Heap.SameBut C s'.heap h') :
    Inv X pins σ H' { s' with heap := h' } := by
  have nC : ∀ b o, s.heap.get? b = some o → b ≠ C := fun b o e => Nat.ne_of_lt (Nat.lt_of_lt_of_le (Heap.lt_size e) hC)
  have un : Un (frs X.stack) fp H H' s.heap s'.heap := J.base
  have hok : HOk X.prog X.w H' s'.heap := J.hok
  have free : H' C = none := J.free
  refine I.call' (s' := { s' with heap := h' }) (ch := fp) J.os ⟨fun b o e n h1 h2 => (sb.2 b (nC b o e)).trans (un.keep b o e n h1 h2), fun b o e n h1 h2 => ?_, un.free, fun b o e h2 => ?_, un.tups, un.frzs, un.tbls⟩ (fun b o e => ?_) J.bare fun b hb => ?_
  · obtain ⟨sl, e1⟩ := un.slot b o e n h1 h2
    exact ⟨sl, (sb.2 b (nC b o e)).trans e1⟩
  · obtain ⟨o', e1⟩ := un.there b o e h2
    exact ⟨o', (sb.2 b (nC b o e)).trans e1⟩
  · refine (hok b o e).stay (fun c u hc q => (sb.2 c ?_).trans q) (fun _ q => q) fun _ _ q => q
    rintro rfl
    rcases hc with rfl | hc
    · rw [free] at e; cases e
    · rw [free] at hc; cases hc
  · obtain ⟨_, f1, f2, f3, f4, f5⟩ := hf b hb
    exact ⟨f3, f1, f4, f5⟩
theorem pe_comp {elt iter : Expr} {px : Pos} {ifs : List Expr} {pos : Pos} {wi : TI} {tt : TT} {te : TE} (S : CompSc X scope cl x fr N') (hc : X.calm = true) (hi : PI X (.Name x px) iter wi)
    (ht : ∀ pins C fp s H, PIfs (cxComp X pins scope cl C N' fp s H) ifs tt) (he : ∀ pins C fp s H, PE (cxComp X pins scope cl C N' fp s H) elt te)
    (hs : ∀ y, foldedSetIterable iter X.env y = pure y := by intro _; rfl) : PE X (.ListComp elt [⟨.Name x px, iter, ifs, 0⟩] scope pos) (tComp wi fr tt te) := by
  intro pins s σ H Q I h
  rw [eval_ListComp]
  refine wpAny_comprehension_free (use := none) (cl := cl) rfl hs S.clos S.kind S.names (thn (hi pins s σ H _ I h) fun v s1 h1 => thn h1 fun itv s2 h2 => ?_)
  obtain ⟨it, fp, tn, J, H2, e, I2, T, st2, f2, hW⟩ := h2
  subst e
  refine wpAny_newObj_type (wpAny_newFunctionEnv S.nocell (by intro y hy; simp at hy) (fun h1 hns sb => ?_) S.kind)
  have hsz : (s2.heap.push { cls := .type "list", data := .seq (List.toArray ([] : List Value)) }).objs.size = s2.heap.objs.size + 1 := Heap.size_push _ _
  have hlt : ∀ b ∈ fp, b < s2.heap.objs.size := fun b hb => by
    obtain ⟨o, e, _⟩ := T.obj 0 _ st2 b hb
    exact Heap.lt_size e
  have keep : ∀ b o, s2.heap.get? b = some o → h1.get? b = some o := fun b o e => by
    refine (sb.2 b ?_).trans (Heap.get?_push_of_some _ (Heap.get?_push_of_some _ e))
    exact Nat.ne_of_lt (Nat.lt_of_lt_of_le (Heap.lt_size e) (by show _ ≤ (s2.heap.push _).objs.size; rw [Heap.size_push]; exact Nat.le_succ _))
  have new : h1.get? s2.heap.objs.size = some { cls := .type "list", data := .seq #[] 0 } := by
    refine (sb.2 _ ?_).trans (Heap.get?_push_of_some _ (Heap.get?_push_size _ rfl))
    exact Nat.ne_of_lt (by show _ < (s2.heap.push _).objs.size; rw [Heap.size_push]; exact Nat.lt_succ_self _)
  obtain ⟨W, ⟨m0, w0⟩, turn⟩ := hW s2.heap.objs.size (I2.hok.fresh (Nat.le_refl _))
  have hCl : s2.heap.objs.size ≤ s2.heap.objs.size + 1 := Nat.le_succ _
  -- the block's context
  generalize hX' : cxComp X pins scope cl (s2.heap.objs.size + 1) N' fp s2 H2 = X'
  have okX : X'.Ok := by rw [← hX']; exact cxComp_ok S I2 f2 hlt hCl
  have eP : X'.prog = X.prog := by rw [← hX']; rfl
  have eW : X'.w = X.w := by rw [← hX']; rfl
  have eK : X'.K = X.K := by rw [← hX']; rfl
  have eA : X'.A = X.A := by rw [← hX']; rfl
  have eE : X'.env = compEnvC scope cl (s2.heap.objs.size + 1) X.env := by rw [← hX']; rfl
  have eN : X'.N = N' := by rw [← hX']; rfl
  have ec : X'.calm = true := by rw [← hX']; exact hc
  have ex : X'.ex = fp := by rw [← hX']; rfl
  have epn : X'.pn = X.pn ++ pins := by rw [← hX']; rfl
  have exe : X'.xe = fun _ _ => False := by rw [← hX']; rfl
  have fok : ∀ {H' : Hp}, (∀ b ∈ fp, H' b = none) → ∀ b ∈ fp, FpOk X' [] H' b := fun hn b hb => by
    have hb' : b ∈ X'.ex := by rw [ex]; exact hb
    refine ⟨hn b hb, (okX.exf b hb').1, okX.exfs b hb', .inl hb', fun y c e => (okX.exf b hb').2 y c e, fun p hp => ?_⟩
    rw [epn, List.append_nil] at hp
    exact (f2 b hb).2.2.2.2.2 p hp
  have gx : PG X' (.Name x px) (gName 0) := by
    refine pg_name (i := 0) (by rw [eN]; exact S.nd) (by rw [eN]; exact S.head) (.inl ?_) (.inr ?_)
    · rw [eE]; exact lookup_relabel_local S.var
    · rw [eE]; exact lookup_relabel_local S.var
  have he' := he pins (s2.heap.objs.size + 1) fp s2 H2
  have ht' := ht pins (s2.heap.objs.size + 1) fp s2 H2
  rw [hX'] at he' ht'
  have loop : ∀ s4, Inv X' [] (inn fr σ none) (upd H2 s2.heap.objs.size (.lst [])) s4 → tn 0 s4.heap →
      codeAny (model X.prog X.w) X.A (.compLoop (.ListComp elt [⟨.Name x px, iter, ifs, 0⟩] scope pos) 0 (.ref it) (.ref s2.heap.objs.size) (compEnvC scope cl (s2.heap.objs.size + 1) X.env))
        (compPost (model X.prog X.w) X.A X.xe none (EP X pins σ Q) (.ref s2.heap.objs.size) (s2.heap.objs.size + 1)) s4 := by
    intro s4 I4 st4
    refine codeAny_compLoop_tests (fun n s' => ∃ i ys o H', Inv X' [] (inn fr σ o) H' s' ∧ tn i s'.heap ∧ (∀ b ∈ fp, H' b = none) ∧ W i n ys H') (fun n s5 h5 => ?_) m0 ⟨0, [], none, _, I4, st4, fun b hb => ?_, w0⟩
    · obtain ⟨i, ys, o, H5, I5, st5, fr5, w5⟩ := h5
      rcases turn i n ys H5 w5 with ⟨stop, q⟩ | ⟨go, step⟩
      · have z := T.done X' eP eW eK ec i [] s5 _ H5 (fun _ _ => False) I5 (fok fr5) st5 stop
        rw [eA] at z
        refine wpAny_mono z (fun r s6 ⟨hr, I6⟩ => ?_) fun _ _ z => z.elim
        subst hr
        obtain ⟨m6, hn6, _⟩ := id I6.loc
        rw [eE] at hn6
        refine ⟨m6, hn6, fun h' sb' => ⟨.ref s2.heap.objs.size, H5, ?_, rfl, q⟩⟩
        rw [← hX'] at I6
        exact comp_end I2 f2 hCl I6 sb'
      · have z := T.item X' eP eW eK ec i [] s5 _ H5 (fun _ _ => False) I5 (fok fr5) st5 go
        rw [eA] at z
        refine wpAny_mono z (fun r s6 ⟨u, hr, h6⟩ => ?_) fun _ _ z => z.elim
        subst hr
        show wpAny _ _ (pure () >>= fun _ => assign (.Name x px) (compEnvC scope cl (s2.heap.objs.size + 1) X.env) u) _ _ s6
        refine wpAny_bind (wpAny_mono h6 (fun _ s7 ⟨y, H7, I7, ry, yl, st7, fr7⟩ => ?_) fun _ _ z => z.elim)
        have I7' := I7.pinned (fok fr7) (T.obj _ _ st7)
        have keepT : ∀ {σ' : St} {H' : Hp} {s' : Shared}, Inv X' ([] ++ pinsAt fp s7.heap) σ' H' s' → tn (i + 1) s'.heap ∧ ∀ b ∈ fp, H' b = none := fun {σ' H' s'} I' => by
          refine ⟨T.keep _ _ _ st7 fun b hb o e => (I'.pin (b, o) (List.mem_append_right _ (List.mem_append_right _ (mem_pinsAt hb e)))).1, fun b hb => ?_⟩
          obtain ⟨o, e, _⟩ := T.obj _ _ st7 b hb
          exact (I'.pin (b, o) (List.mem_append_right _ (List.mem_append_right _ (mem_pinsAt hb e)))).2.1
        have z := gx _ s7 _ H7 y u (fun σ8 H8 => σ8 = inn fr σ (some y) ∧ H8 = H7) I7' ry ⟨rfl, rfl⟩
        rw [eA, eP, eW, eE, exe] at z
        refine wpAny_mono z (fun _ s8 ⟨σ8, H8, I8, e8, e9⟩ => ?_) fun _ _ z => z.elim
        subst e8 e9
        have z := ht' _ s8 _ H8 _ I8 (step y H8 yl)
        rw [eA, eP, eW, eE, exe] at z
        refine wpAny_mono z (fun c s9 ⟨H9, I9, q9⟩ => ?_) fun _ _ z => z.elim
        cases c with
        | false =>
          rw [if_neg Bool.false_ne_true] at q9 ⊢
          obtain ⟨m', hm, w9⟩ := q9
          exact ⟨m', hm, i + 1, ys, some y, H9, I9.unpinned, (keepT I9).1, (keepT I9).2, w9⟩
        | true =>
          rw [if_pos rfl] at q9 ⊢
          have z := he' _ s9 _ H9 _ I9 q9
          rw [eA, eP, eW, eE, exe] at z
          refine wpAny_mono z (fun xv s10 ⟨v', H10, I10, rv, hD, hz, m', hm, w10⟩ => ?_) fun _ _ z => z.elim
          have z := mt_append (X := X') _ s10 _ H10 (.ref s2.heap.objs.size) [v'] _ [xv] (fun _ H11 => H11 = upd H10 s2.heap.objs.size (.lst (ys ++ [v']))) I10 rfl (.cons rv .nil) ⟨_, ys, v', rfl, rfl, hD, hz, rfl⟩
          rw [eA, eP, eW, exe] at z
          refine wpAny_mono z (fun _ s11 ⟨_, H11, I11, _, e11⟩ => ?_) fun _ _ z => z.elim
          subst e11
          exact ⟨m', hm, i + 1, ys ++ [v'], some y, _, I11.unpinned, (keepT I11).1, (keepT I11).2, w10⟩
    · rw [upd_ne (Nat.ne_of_lt (hlt b hb))]
      exact (f2 b hb).1
  have start : Inv X' [] (inn fr σ none) (upd H2 s2.heap.objs.size (.lst [])) { s2 with heap := h1, toks := s2.toks } := by
    rw [← hX']
    exact comp_start (t' := s2.toks) S I2 f2 hlt rfl rfl (by rw [← hsz]; exact hns) keep new
  have st1 : tn 0 h1 := T.keep _ _ _ st2 fun b hb o e => keep b o e
  have fin := codeAny_compStart_list (rest := []) (loop _ start st1) (T.self X.A 0 _ _ (notedBy (model X.prog X.w) X.A (compEnvC scope cl (s2.heap.objs.size + 1) X.env) fun e s' => compPost (model X.prog X.w) X.A X.xe none (EP X pins σ Q) (.ref s2.heap.objs.size) (s2.heap.objs.size + 1) (.error e) s') st1 (loop _ start st1))
  rw [← hsz] at fin
  exact fin
end
end L2
set_option maxRecDepth 100000
namespace L2
open PySem PySem.Spec PyProof.Rows Xc
section
variable {X : Cx} {pins : List (Addr × Obj)} {σ : St} {H H2 : Hp} {s : Shared} {h' : Heap} {M : Model} {E : Value → Shared → Prop} {Q : Unit → Shared → Prop} {e C T : Addr} {dd : Option Addr} {fl : Value}
end
section
variable {P : Program} {w : World} {K : PySem.W.Frag} {mg : Str → Option Value} {base : Heap} {N : List Str} {qual : Str} {scope : Scope} {f : Addr} {cd : Value} {A : Around} {outer : List Env} {s₀ : Shared} {H₀ : Hp} {E : XK}
end
section
variable {X : Cx} {k : Nat} {f C : Addr} {fd : FuncData} {ps : List Str} {sp : Sp} {x : Str} {p pos cpos : Pos} {e : Expr} {es : List Expr} {t : TA}
end
end L2
set_option maxRecDepth 100000
namespace L2
open PySem PySem.Spec PyProof.Rows Xc
section
variable {X : Cx} {ex : Expr} {te : TE} {pos : Pos} {Ew : XK}
end
section
variable {X : Cx} {pins pins' : List (Addr × Obj)} {σ : St} {H : Hp} {s : Shared} {D : Ends} {hs : List ExceptHandler} {e : Addr}
end
end L2
set_option maxRecDepth 100000
namespace L2
open PySem PySem.Spec PyProof.Rows Xc
section
variable {X : Cx}
def selfEq : V → Bool
  | .flt _ => false
  | .byt _ => false
  | _ => true
theorem eqAt_self {A : Around} {s : Shared} {x : V} {u v : Value} (ru : RelV x u) (rv : RelV x v) (h : selfEq x = true) : SeqAt.EqAt A s u v true := by
  cases x with
  | non => cases ru; cases rv; exact SeqAt.EqAt.same _
  | bl b => cases ru; cases rv; exact SeqAt.EqAt.same _
  | int i => obtain ⟨t, rfl⟩ := ru; obtain ⟨t', rfl⟩ := rv; have z := SeqAt.EqAt.int_int (A := A) (s := s) i t i t'; rwa [beq_self_eq_true] at z
  | str i => obtain ⟨t, rfl⟩ := ru; obtain ⟨t', rfl⟩ := rv; have z := SeqAt.EqAt.str_str (A := A) (s := s) i t i t'; rwa [beq_self_eq_true] at z
  | ref a => cases ru; cases rv; exact SeqAt.EqAt.same _
  | ty n => cases ru; cases rv; exact SeqAt.EqAt.same _
  | byt b => exact absurd h (by simp [selfEq])
  | flt b => exact absurd h (by simp [selfEq])
theorem op_eq_self (hu : X.A.units < cLine) : OpR X (compareOp .Eq) (fun x y H Q => ∃ a b xs, x = .ref a ∧ y = .ref b ∧ SqL X.K H a xs ∧ SqL X.K H b xs ∧ (∀ v ∈ xs, selfEq v = true) ∧ Q (.bl true) H) := by
  intro pins s σ H x y v u Q I rx ry h
  obtain ⟨a, b, xs, rfl, rfl, ha, hb, hs, q⟩ := h
  cases rx
  cases ry
  obtain ⟨is, r1, p1, z1⟩ := I.list ha
  obtain ⟨js, r2, p2, z2⟩ := I.list hb
  have l1 := r1.length
  have l2 := r2.length
  refine SeqAt.eq_listAt (e := fun _ => true) p1.isList p2.isList (by simp; omega) hu (fun j h1 h2 => ?_) ?_
  · simp only [List.size_toArray] at h1 h2
    have hx : j < xs.length := by omega
    have e0 : xs[j]? = some xs[j] := by simp [hx]
    obtain ⟨u1, g1, q1⟩ := r1.get e0
    obtain ⟨u2, g2, q2⟩ := r2.get e0
    have e1 : is.toArray[j] = u1 := by
      have z : is[j]? = some is[j] := by simp [h1]
      rw [z] at g1
      simpa using Option.some.inj g1
    have e2 : js.toArray[j] = u2 := by
      have z : js[j]? = some js[j] := by simp [h2]
      rw [z] at g2
      simpa using Option.some.inj g2
    rw [e1, e2]
    exact eqAt_self q1 q2 (hs _ (List.getElem_mem hx))
  · rw [show ((List.range is.toArray.size).all fun _ => true) = true by simp]
    exact ⟨.bl true, H, I, rfl, q⟩
end
end L2
set_option maxRecDepth 100000
namespace L2
open PySem PySem.Spec PyProof.Rows
section
variable {X : Cx} {tg : Expr}
end
end L2
set_option maxRecDepth 100000
namespace L2
open PySem PySem.Spec PyProof.Rows
section
variable {X : Cx} {tg : Expr}
mutual
inductive Dat (K : PySem.W.Frag) (H : Hp) : V → PyData → Prop
  | non : Dat K H .non .none
  | bl (b : Bool) : Dat K H (.bl b) (.bool b)
  | int (i : Int) : Dat K H (.int i) (.int i)
  | str (z : Str) : Dat K H (.str z) (.str z)
  | lst {a : Addr} {xs : List V} {ds : List PyData} (h : SqL K H a xs) (r : Dats K H xs ds) : Dat K H (.ref a) (.list ds)
  | tup {a : Addr} {xs : List V} {ds : List PyData} (h : SqT K H a xs) (r : Dats K H xs ds) : Dat K H (.ref a) (.tuple ds)
inductive Dats (K : PySem.W.Frag) (H : Hp) : List V → List PyData → Prop
  | nil : Dats K H [] []
  | cons {x : V} {xs : List V} {d : PyData} {ds : List PyData} (h : Dat K H x d) (t : Dats K H xs ds) : Dats K H (x :: xs) (d :: ds)
end
mutual
theorem Dat.reads {pins : List (Addr × Obj)} {σ : St} {H : Hp} {s : Shared} (I : Inv X pins σ H s) : ∀ {x : V} {d : PyData} {u : Value}, Dat X.K H x d → RelV x u → ∃ as, Reads s.heap u d as
  | _, _, _, .non, r => by cases r; exact ⟨_, .none⟩
  | _, _, _, .bl b, r => by cases r; exact ⟨_, .bool b⟩
  | _, _, _, .int i, r => by obtain ⟨t, rfl⟩ := r; exact ⟨_, .int i t⟩
  | _, _, _, .str z, r => by obtain ⟨t, rfl⟩ := r; exact ⟨_, .str z t⟩
  | _, _, _, .lst h t, r => by
    cases r
    obtain ⟨its, rv, p, _⟩ := I.list h
    obtain ⟨as, q⟩ := Dats.reads I t rv
    obtain ⟨o, n, e, c, _, d⟩ := p
    exact ⟨_, .list e c d (by simpa using q)⟩
  | _, _, _, .tup h t, r => by
    cases r
    obtain ⟨its, rv, p, _⟩ := I.tuple h
    obtain ⟨as, q⟩ := Dats.reads I t rv
    obtain ⟨o, e, c, n, d⟩ := p
    exact ⟨_, .tuple e c d (by simpa using q)⟩
theorem Dats.reads {pins : List (Addr × Obj)} {σ : St} {H : Hp} {s : Shared} (I : Inv X pins σ H s) : ∀ {xs : List V} {ds : List PyData} {us : List Value}, Dats X.K H xs ds → Vals xs us → ∃ as, ReadsAll s.heap us ds as
  | _, _, _, .nil, r => by cases r; exact ⟨_, .nil⟩
  | _, _, _, .cons h t, r => by
    cases r with
    | cons r1 r2 =>
      obtain ⟨a1, q1⟩ := Dat.reads I h r1
      obtain ⟨a2, q2⟩ := Dats.reads I t r2
      exact ⟨_, .cons q1 q2⟩
end
def rEqV (K : PySem.W.Frag) (neg : Bool) : R2 := fun x y H Q => ∃ dx dy, Dat K H x dx ∧ Dat K H y dy ∧ SeqAt.shaped dx = true ∧ SeqAt.shaped dy = true ∧ Q (.bl (if neg then !PyData.eqv dx dy else PyData.eqv dx dy)) H
theorem op_eqV (hu : X.A.units + 64 < cLine) : OpR X (compareOp .Eq) (rEqV X.K false) := by
  intro pins s σ H x y v u Q I rx ry h
  obtain ⟨dx, dy, hx, hy, s1, s2, q⟩ := h
  obtain ⟨as, r1⟩ := hx.reads I rx
  obtain ⟨bs, r2⟩ := hy.reads I ry
  exact eq_dataH r1 r2 s1 s2 hu ⟨.bl _, H, I, rfl, q⟩
theorem op_neV (hu : X.A.units + 64 < cLine) : OpR X (compareOp .NotEq) (rEqV X.K true) := by
  intro pins s σ H x y v u Q I rx ry h
  obtain ⟨dx, dy, hx, hy, s1, s2, q⟩ := h
  obtain ⟨as, r1⟩ := hx.reads I rx
  obtain ⟨bs, r2⟩ := hy.reads I ry
  exact ne_dataH r1 r2 s1 s2 hu ⟨.bl _, H, I, rfl, q⟩
def ItS (lo st : Int) (n : Nat) : It := ⟨fun i _ => i < n, fun i H x H' => H' = H ∧ x = .int (lo + i * st), fun i _ => n ≤ i⟩
theorem turn_rangeS {P : Program} {w : World} {K : PySem.W.Frag} (it : Addr) (lo st : Int) (n : Nat) : Turn P w K tg (ItS lo st n) [it] it (fun i h => IsRangeIter h it (lo + (i : Nat) * st) ((n : Int) - (i : Nat)) st) where
  mem := by simp
  obj := fun i h st b hb => by
    have e : b = it := by simpa using hb
    subst e
    exact ⟨_, st, fun v z => by
      have z' : Data.fields _ = Data.cell v := z
      cases z'⟩
  keep := fun i h h' st k => k it (by simp) _ st
  item := by
    intro X hP hw hK hc i pins s σ H E I hf st' hg
    subst hP hw hK
    obtain ⟨f0, f1, f2, f3, f4, f5⟩ := hf it (by simp)
    have W := Walks.range (prog := X.prog) (w := X.w) (I.ok.hd hc) it lo st n
    refine W.item i s _ _ hg st' fun v h' tk hv st2 kk => ?_
    obtain ⟨t, rfl⟩ := hv
    have I1 : Inv X pins σ H { s with heap := h', toks := tk } := I.turned (fun b o hb e => kk b o (by simpa using hb) e) f0 f1 f3 f4 f5
    exact ⟨_, rfl, go_of (s := { s with heap := h', toks := tk }) (n := "range_iterator") st2 rfl rfl (by decide) ⟨.int (lo + i * st), H, I1, ⟨t, rfl⟩, ⟨rfl, rfl⟩, st2, fun b hb => (hf b hb).1⟩⟩
  done := by
    intro X hP hw hK hc i pins s σ H E I hf st' hg
    subst hP hw hK
    obtain ⟨f0, f1, f2, f3, f4, f5⟩ := hf it (by simp)
    exact wpAny_pyNext_range_end (I.ok.hd hc) st' (by have : n ≤ i := hg; omega) fun h' eb => ⟨rfl, I.turned (t' := s.toks) (fun b o hb e => eb b o hb e) f0 f1 f3 f4 f5⟩
  self := fun _ _ _ _ _ st h => wpAny_pyIter_rangeiter st h
def steps (lo hi st : Int) : Nat := if lo < hi then ((hi - lo - 1) / st + 1).toNat else 0
def iRng3 (ta : TA) : TI := fun σ H R => ta σ H fun vs H1 => ∃ i j k : Int, vs = [.int i, .int j, .int k] ∧ (-(2 ^ 40) ≤ i ∧ i < 2 ^ 40 ∧ -(2 ^ 40) ≤ j ∧ j < 2 ^ 40 ∧ 0 < k ∧ k < 2 ^ 29) ∧ R (ItS i k (steps i j k)) H1
theorem size_steps {i j k : Int} (h : 0 < k) : Builtin.Range.rangeSize i j k = (steps i j k : Int) := by
  unfold Builtin.Range.rangeSize steps
  rw [if_pos h]
  split
  · have : 0 ≤ (j - i - 1) / k := Int.ediv_nonneg (by omega) (by omega)
    omega
  · rfl
theorem small_steps {i j k : Int} (h1 : -(2 ^ 40) ≤ i) (h2 : i < 2 ^ 40) (h3 : -(2 ^ 40) ≤ j) (h4 : j < 2 ^ 40) (h5 : 0 < k) (h6 : k < 2 ^ 29) : Builtin.Range.small i j k = true := by
  have hz := size_steps (i := i) (j := j) h5
  have hb : (steps i j k : Int) ≤ 2 ^ 41 := by
    unfold steps
    split
    · have e1 : (j - i - 1) / k ≤ j - i - 1 := Int.ediv_le_self _ (by omega)
      have : 0 ≤ (j - i - 1) / k := Int.ediv_nonneg (by omega) (by omega)
      omega
    · decide
  have hn : (0 : Int) ≤ (steps i j k : Int) := Int.natCast_nonneg _
  unfold Builtin.Range.small
  rw [hz]
  simp only [Builtin.Range.rangeFitsLong, Bool.and_eq_true, Bool.or_eq_true, decide_eq_true_eq, beq_iff_eq]
  rw [if_pos h5]
  simp only [Bool.and_eq_true, decide_eq_true_eq]
  omega
theorem pi_range3 {a b c : Expr} {ta : TA} {p pos : Pos} (hg : Gl X "range") (hm : X.mg "range" = none) (ha : PA X [a, b, c] ta) (hs : starEach [a, b, c] X.env = (false, eval a X.env) :: starEach [b, c] X.env := by rfl) (hs2 : (backTo pos (starEach [b, c] X.env)).any (·.1) = false := by rfl) :
    PI X tg (.Call (.Name "range" p) [a, b, c] [] pos) (iRng3 ta) := by
  intro pins s σ H R I h
  refine Call_ (ld_blt I hg hm boot_range (PyProof.Rows.callWith_type1 (thn (ha pos pins s σ H _ I h) fun us s1 ⟨vs, H1, I1, r1, q1⟩ => ?_) hs hs2))
  obtain ⟨i, j, k, e, ⟨q1, q2, q3, q4, q5, q6⟩, q⟩ := q1
  subst e
  cases r1 with
  | cons r rr =>
    cases rr with
    | cons r' rr =>
      cases rr with
      | cons r2 rr =>
        cases rr
        obtain ⟨t, rfl⟩ := r
        obtain ⟨t', rfl⟩ := r'
        obtain ⟨t2, rfl⟩ := r2
        refine call_range_3 (by omega) ?_ (.inl (PyProof.noPylong_small (by omega)))
        refine wpAny_pyIter_range (IsRange.new ..) (small_steps q1 q2 q3 q4 q5 q6) ?_
        have I2 : Inv X pins σ H1 { s1 with heap := s1.heap.push { cls := .type "range", data := .fields #[.int i t, .int j t', .int k t2] } } := I1.kept (t' := s1.toks) fun b o e => Heap.get?_push_of_some _ e
        refine ⟨(s1.heap.push { cls := .type "range", data := .fields #[.int i t, .int j t', .int k t2] }).objs.size, [(s1.heap.push { cls := .type "range", data := .fields #[.int i t, .int j t', .int k t2] }).objs.size], _, _, H1, rfl,
          I2.kept (t' := s1.toks) fun b o e => Heap.get?_push_of_some _ e, turn_rangeS _ i k (steps i j k), ?_, fun b hb => ?_, q⟩
        · show IsRangeIter _ _ (i + ((0 : Nat) : Int) * k) (((steps i j k : Nat) : Int) - ((0 : Nat) : Int)) k
          have e1 : i + ((0 : Nat) : Int) * k = i := by simp
          have e2 : ((steps i j k : Nat) : Int) - ((0 : Nat) : Int) = Builtin.Range.rangeSize i j k := by rw [size_steps q5]; simp
          rw [e1, e2]
          exact Heap.get?_push_size _ rfl
        · have e : b = (s1.heap.push { cls := .type "range", data := .fields #[.int i t, .int j t', .int k t2] }).objs.size := by simpa using hb
          subst e
          exact I2.fpOk (Nat.le_refl _) (I2.hok.fresh (Nat.le_refl _))
theorem for_rangeS {lo st : Int} {n : Nat} {g : TG} {tb : TS} {D : Ends} {σ : St} {H : Hp} (Pv : Nat → St → Hp → Prop) (h0 : Pv 0 σ H)
    (hs : ∀ i σ H, i < n → Pv i σ H → g (.int (lo + i * st)) σ H fun σ2 H2 => tb { D with nx := Pv (i + 1), ct := Pv (i + 1), bk := D.nx } σ2 H2) (hd : ∀ σ H, Pv n σ H → D.nx σ H) :
    ∃ W : Nat → Nat → St → Hp → Prop, (∃ m, W 0 m σ H) ∧ ∀ i m σ H, W i m σ H →
      ((ItS lo st n).stop i H ∧ D.nx σ H) ∨ ((ItS lo st n).go i H ∧ ∃ N : St → Hp → Prop, (∀ σ' H', N σ' H' → ∃ m', m' < m ∧ W (i + 1) m' σ' H') ∧ ∀ x H', (ItS lo st n).yld i H x H' → g x σ H' fun σ2 H2 => tb { D with nx := N, ct := N, bk := D.nx } σ2 H2) := by
  refine ⟨fun i m σ H => m = n - i ∧ i ≤ n ∧ Pv i σ H, ⟨n, by simp, Nat.zero_le _, h0⟩, ?_⟩
  rintro i m σ H ⟨rfl, hi, p⟩
  by_cases hlt : i < n
  · refine .inr ⟨hlt, Pv (i + 1), fun σ' H' p' => ⟨n - (i + 1), by omega, rfl, hlt, p'⟩, fun x H' y => ?_⟩
    obtain ⟨e, y⟩ := y
    subst e y
    exact hs i σ _ hlt p
  · have e : i = n := by omega
    subst e
    exact .inl ⟨Nat.le_refl _, hd σ H p⟩
end
end L2
namespace K21
end K21
set_option maxRecDepth 100000
namespace L2
open PySem PySem.Spec PyProof.Rows
structure One (P : Program) (w : World) (K : PySem.W.Frag) (mg : Str → Option Value) (base : Heap) (k : Nat) (x : Str) (ps : List Str) (sp : Sp) : Prop where
  is : ∃ (g : Addr) (gd : FuncData), mg x = some (.ref g) ∧ PySem.W.keepIn K (.ref g) = true ∧ Binds K gd ps [] ∧ FnOk P w K mg base CX0 k g gd ps sp
theorem ite_tt' {p : Bool} {a b : Prop} (h : p = true) (q : a) : if p = true then a else b := by rw [if_pos h]; exact q
theorem ite_ff' {p : Bool} {a b : Prop} (h : p = false) (q : b) : if p = true then a else b := by rw [if_neg (by rw [h]; exact Bool.false_ne_true)]; exact q
theorem iteD {c A B : Prop} [Decidable c] (h1 : c → A) (h2 : ¬ c → B) : if decide c = true then A else B := by
  by_cases h : c
  · rw [if_pos (decide_eq_true h)]; exact h1 h
  · rw [if_neg (by rw [decide_eq_false h]; exact Bool.false_ne_true)]; exact h2 h
theorem iteB {p : Bool} {A B : Prop} (h1 : p = true → A) (h2 : p = false → B) : if p = true then A else B := by
  cases p with
  | true => rw [if_pos rfl]; exact h1 rfl
  | false => rw [if_neg Bool.false_ne_true]; exact h2 rfl
theorem intd (a b : Int) : decide (V.int a = V.int b) = decide (a = b) := by
  rw [Bool.eq_iff_iff]
  simp
theorem iteI {a b : Int} {A B : Prop} (h1 : a = b → A) (h2 : a ≠ b → B) : if decide (V.int a = V.int b) = true then A else B := by
  rw [intd]
  exact iteD h1 h2
theorem iteN {p : Bool} {A B : Prop} (h1 : p = false → A) (h2 : p = true → B) : if (!p) = true then A else B := by
  cases p with
  | false => exact h1 rfl
  | true => exact h2 rfl
theorem small (n : Nat) (h : n ≤ 5000) : n ≤ sizeLine := Nat.le_trans h (by decide)
theorem smallT (n : Nat) (h : n ≤ 5000) : n < sizeLine := Nat.lt_of_le_of_lt h (by decide)
theorem same_new {H H1 : Hp} {p : Addr} {o : HO} (s : Same H H1) (hp : H1 p = none) : Same H (upd H1 p o) := fun b u q => by
  rw [upd_ne (ne_of_none (s b u q) hp)]
  exact s b u q
theorem atI_all {p : V → Prop} {xs : List V} {i : Int} (h0 : 0 ≤ i) (h1 : i < xs.length) (h : ∀ v ∈ xs, p v) : ∃ v, atI xs i = some v ∧ p v := by
  have hj : i.toNat < xs.length := by omega
  refine ⟨xs[i.toNat], ?_, h _ (List.getElem_mem hj)⟩
  have e : ((i.toNat : Nat) : Int) = i := by omega
  have z := atI_nat (List.getElem?_eq_getElem hj)
  rwa [e] at z
theorem atI_int {ns : List Int} {i : Int} (h0 : 0 ≤ i) (h1 : i < ns.length) : ∃ n, atI (ns.map V.int) i = some (V.int n) := by
  obtain ⟨v, e, n, rfl⟩ := atI_all (p := fun v => ∃ n, v = V.int n) (xs := ns.map V.int) h0 (by rw [List.length_map]; exact h1) (fun v hv => by
    obtain ⟨n, _, e⟩ := List.mem_map.mp hv
    exact ⟨n, e.symm⟩)
  exact ⟨n, e⟩
theorem boot_isi : bootBuiltins "isinstance" = some (.builtin "isinstance") := by decide +kernel
theorem boot_str : bootBuiltins "str" = some (.type "str") := by decide +kernel
theorem boot_list : bootBuiltins "list" = some (.type "list") := by decide +kernel
theorem boot_min : bootBuiltins "min" = some (.builtin "min") := by decide +kernel
end L2
set_option maxRecDepth 100000
namespace L2
open PySem PySem.Spec PyProof.Rows
section
variable {X : Cx}
theorem call_str_str : CallR X (.type "str") (fun xs H Q => ∃ z, xs = [.str z] ∧ Q (.str z) H) := by
  intro pins s σ H xs us Q I r h
  obtain ⟨z, rfl, q⟩ := h
  obtain ⟨u, rfl, t, rfl⟩ := vals1 r
  exact PySem.P.str_of_str ⟨.str z, H, I, ⟨_, rfl⟩, q⟩
end
structure Base (K : PySem.W.Frag) (B : Addr) (m : Str) (f : Addr) : Prop where
  rd : PySem.W.readsIn K B (.type "type") = true
  ga : PySem.W.specialIn K (.ref B) "__getattribute__" = some (some (.builtin "type.__getattribute__"))
  at_ : PySem.W.findCls K (.ref B) (.type "type") m = some (.val (.ref f))
  kp : PySem.W.keepIn K (.ref f) = true
section
variable {X : Cx} {CX : CXT} {k : Nat} {f B : Addr} {fd : FuncData} {ps : List Str} {sp : Sp} {dvs : List V} {ds : List Value} {E : XK} {x m : Str} {p pos apos : Pos} {e o : Expr} {es : List Expr} {ta : TE} {t : TA}
theorem pe_base {pl : Sem Bool} (hg : Gl X x) (hm : X.mg x = some (.ref B)) (hB : Base X.K B m f) (F : FnOk X.prog X.w X.K X.mg X.base CX k f fd ps sp) (hr : Room k X.A) (hb : Binds X.K fd ps ds) (hd : Vals dvs ds) (hx : Passes CX X E) (ha : PA X (e :: es) t)
    (hdb : (x == ("__debug__" : Str)) = false := by decide) (hst : starEach (e :: es) X.env = (false, eval e X.env) :: starEach es X.env := by rfl) (hpl : (backTo pos (starEach es X.env)).any (·.1) = false := by rfl)
    (ht : eval (.Call (.Attribute (.Name x p) m apos) (e :: es) [] pos) X.env = (do
      let ov ← eval (.Name x p) X.env
      standAt apos.atName
      let (f, first) ← holding [ov] (getMethod ov m pl)
      callWith pos f first (backTo pos (starEach (e :: es) X.env)) (backToKw pos (keywordEach [] X.env))) := by rfl) :
    PE X (.Call (.Attribute (.Name x p) m apos) (e :: es) [] pos) (tCall sp dvs E t) := by
  intro pins s σ H Q I h
  refine PySem.W.methodCall_KW (pl := pl) (ld_glob I hg hm ?_ hdb) ht
  refine PySem.W.method_cls I.kIn hB.ga (PySem.W.cls_value I.kIn hB.rd hB.at_ rfl ?_)
  have I1 := I.tok (s.toks + 1)
  refine PySem.W.callWith_K (first := []) (h₀ := X.base) I.ok.mod.kin hB.kp (thn (ha pos pins _ σ H _ I1 h) fun us s2 ⟨vs, H2, I2, r, q2⟩ => ⟨I2.kIn, ?_⟩) hst hpl
  exact run_fn F hr hb hd hx I2 r q2
def tMethD (X : Cx) (m : Str) (ta : TE) (t : TA) : TE := fun σ H Q => ta σ H fun x H1 => ∃ a C dx fs f fd ps sp k CX E, x = .ref a ∧ H1 a = some (.ins C dx fs) ∧ Cls X.K C ∧ Meth X.K C m f ∧ fs.lookup m = none ∧
  FnOk X.prog X.w X.K X.mg X.base CX k f fd ps sp ∧ Room k X.A ∧ Binds X.K fd ps [] ∧ Passes CX X E ∧ t σ H1 fun vs H2 => sp (.ref a :: vs) H2 Q E
theorem pe_methD0 {pl : Sem Bool} (he : PE X o ta)
    (ht : eval (.Call (.Attribute o m apos) [] [] pos) X.env = (do
      let ov ← eval o X.env
      standAt apos.atName
      let (f, first) ← holding [ov] (getMethod ov m pl)
      callWith pos f first (backTo pos (starEach [] X.env)) (backToKw pos (keywordEach [] X.env))) := by rfl) :
    PE X (.Call (.Attribute o m apos) [] [] pos) (tMethD X m ta tNil) := by
  intro pins s σ H Q I h
  refine PySem.W.methodCall_KW (pl := pl) (thn (he pins s σ H _ I h) fun u s1 ⟨x, H1, I1, rx, a, C, dx, fs, f, fd, ps, sp, k, CX, E, ex, ea, c, hm, l, F, hr, hb, hx, q⟩ => ?_) ht
  subst ex
  obtain rfl : u = Value.ref a := rx
  refine getmeth_ok I1 ea c hm l ?_
  exact PySem.W.callWith_K0 (first := [.ref a]) I1.kIn hm.kp (run_fn (us := [.ref a]) (vs := [.ref a]) F hr hb .nil hx I1 (.cons rfl .nil) q)
end
end L2
set_option maxRecDepth 100000
namespace L2
open PySem PySem.Spec PyProof.Rows
section
variable {X : Cx} {pins : List (Addr × Obj)} {σ : St} {H : Hp} {s : Shared} {h' : Heap} {ch : List Addr}
theorem Inv.turnedN {t' : Nat} (I : Inv X pins σ H s) (hf : ∀ b ∈ ch, FpOk X pins H b) (k : ∀ b o, b ∉ ch → s.heap.get? b = some o → h'.get? b = some o) : Inv X pins σ H { s with heap := h', toks := t' } := by
  have nit : ∀ b u, H b = some u → b ∉ ch := fun b u e z => by rw [(hf b z).1] at e; cases e
  refine I.step (g' := s.gens) (d' := s.drawn) (ch := ch) (fun b hb => ?_) (fun b o _ _ hc e _ => k b o hc e) (fun b o _ _ hc e _ => ⟨o.slots, k b o hc e⟩) (fun _ _ _ _ n => n)
    (fun b o hc e => ⟨o, k b o hc e⟩) (fun _ _ e => e) (fun _ _ _ e => e) (fun b ps e => ⟨#[], by rw [e]; simp⟩) (fun m hm => ?_) (fun b u e => ?_) I.bare
  · obtain ⟨_, f1, f2, f3, f4, f5⟩ := hf b hb
    exact ⟨f3, f1, f4, f5⟩
  · obtain ⟨o, es, ep, ho, r⟩ := hm
    exact ⟨o, es, ep, k _ o (fun z => (hf _ z).2.1 rfl) ho, r⟩
  · refine (I.hok b u e).stay (fun c v hc q => k c v ?_ q) (fun _ q => q) fun _ _ q => q
    rcases hc with z | z
    · rw [z]; exact nit b u e
    · exact nit c _ z
theorem Inv.turnLaid {t' : Nat} {a : Addr} {o : HO} (I : Inv X pins σ H s) (hf : ∀ b ∈ ch, FpOk X pins H b) (k : ∀ b o, b ∉ ch → s.heap.get? b = some o → h'.get? b = some o) (hp : s.heap.objs.size ≤ a) (new : ObjOk X.prog X.w (upd H a o) h' a o) :
    Inv X pins σ (upd H a o) { s with heap := h', toks := t' } := by
  have nit : ∀ b u, H b = some u → b ∉ ch := fun b u e z => by rw [(hf b z).1] at e; cases e
  have hn : H a = none := I.hok.fresh hp
  have up : ∀ b u, H b = some u → upd H a o b = some u := fun b u e => by rw [upd_ne (ne_of_none e hn)]; exact e
  refine I.step (g' := s.gens) (d' := s.drawn) (ch := ch) (fun b hb => ?_) (fun b o _ _ hc e _ => k b o hc e) (fun b o _ _ hc e _ => ⟨o.slots, k b o hc e⟩)
    (fun b u _ e n => by rw [upd_ne (Nat.ne_of_lt (Nat.lt_of_lt_of_le (Heap.lt_size e) hp))]; exact n)
    (fun b o hc e => ⟨o, k b o hc e⟩) (fun b xs e => up b _ e) (fun b u v e => up b _ e) (fun b ps e => ⟨#[], by rw [up b _ e]; simp⟩) (fun m hm => ?_) (fun b u e => ?_) I.bare
  · obtain ⟨_, f1, f2, f3, f4, f5⟩ := hf b hb
    exact ⟨f3, f1, f4, f5⟩
  · obtain ⟨o, es, ep, ho, r⟩ := hm
    exact ⟨o, es, ep, k _ o (fun z => (hf _ z).2.1 rfl) ho, r⟩
  · by_cases hb : b = a
    · subst hb; rw [upd_same] at e; cases e; exact new
    · rw [upd_ne hb] at e
      refine (I.hok b u e).stay (fun c v hc q => k c v ?_ q) (fun c q => up c _ q) fun c xs q => up c _ q
      rcases hc with z | z
      · rw [z]; exact nit b u e
      · exact nit c _ z
end
def Itz (K : PySem.W.Frag) (l1 l2 : Addr) : It :=
  ⟨fun i H => ∃ xs ys x y, SqL K H l1 xs ∧ SqL K H l2 ys ∧ xs[i]? = some x ∧ ys[i]? = some y,
   fun i H v H' => ∃ T x y, H T = none ∧ v = .ref T ∧ H' = upd H T (.tup [x, y]) ∧ (∀ xs, SqL K H l1 xs → xs[i]? = some x) ∧ (∀ ys, SqL K H l2 ys → ys[i]? = some y),
   fun i H => ∃ xs ys, SqL K H l1 xs ∧ SqL K H l2 ys ∧ (xs.length ≤ i ∨ ys.length ≤ i)⟩
theorem ne_cls {h : Heap} {a b : Addr} {o u : Obj} (e : h.get? a = some o) (e' : h.get? b = some u) (n : o.cls ≠ u.cls) : a ≠ b := fun z => by
  subst z
  rw [e] at e'
  cases e'
  exact n rfl
structure ZipIn (z TI TO i1 i2 : Addr) : Prop where
  TIz : TI ≠ z
  TOz : TO ≠ z
  i1z : i1 ≠ z
  i2z : i2 ≠ z
  TITO : TI ≠ TO
  TIi1 : TI ≠ i1
  TIi2 : TI ≠ i2
  TOi1 : TO ≠ i1
  TOi2 : TO ≠ i2
  i12 : i1 ≠ i2
def zipT (z TI TO i1 i2 l1 l2 : Addr) (i : Nat) (h : Heap) : Prop := IsZip h z TI TO .none ∧ IsPair h TI (.ref i1) (.ref i2) ∧ (∃ a b, IsPair h TO a b) ∧ h.IsListIter i1 l1 i ∧ h.IsListIter i2 l2 i
theorem ZipIn.apart {z TI TO i1 i2 l1 l2 : Addr} {i : Nat} {h : Heap} {xs ys : Array Value} (D : ZipIn z TI TO i1 i2) (t : zipT z TI TO i1 i2 l1 l2 i h) (hl1 : h.IsList l1 xs) (hl2 : h.IsList l2 ys) : ZipApart z TI TO i1 i2 l1 l2 := by
  obtain ⟨hz, hTI, ⟨a, b, hTO⟩, ⟨o1, e1, c1, _⟩, ⟨o2, e2, c2, _⟩⟩ := t
  obtain ⟨p1, g1, k1, _⟩ := hl1
  obtain ⟨p2, g2, k2, _⟩ := hl2
  refine ⟨D.TIz, D.TOz, D.i1z, D.i2z, D.TITO, D.TIi1, D.TIi2, D.TOi1, D.TOi2, D.i12, ?_, ?_, ?_, ?_, ?_, ?_, ?_, ?_⟩
  · exact ne_cls g1 hz (by rw [k1]; show Value.type "list" ≠ .type "zip"; decide)
  · exact ne_cls g1 hTO (by rw [k1]; show Value.type "list" ≠ .type "tuple"; decide)
  · exact ne_cls g1 e1 (by rw [k1, c1]; decide)
  · exact ne_cls g1 e2 (by rw [k1, c2]; decide)
  · exact ne_cls g2 hz (by rw [k2]; show Value.type "list" ≠ .type "zip"; decide)
  · exact ne_cls g2 hTO (by rw [k2]; show Value.type "list" ≠ .type "tuple"; decide)
  · exact ne_cls g2 e1 (by rw [k2, c1]; decide)
  · exact ne_cls g2 e2 (by rw [k2, c2]; decide)
theorem turn_zip {P : Program} {w : World} {K : PySem.W.Frag} {elts : List Expr} {x1 : Nat} {tpos : Pos} {z TI TO i1 i2 l1 l2 : Addr} (D : ZipIn z TI TO i1 i2) :
    Turn P w K (.Tuple elts x1 tpos) (Itz K l1 l2) [z, TI, TO, i1, i2] z (zipT z TI TO i1 i2 l1 l2) where
  mem := by simp
  obj := fun i h st b hb => by
    obtain ⟨hz, hTI, ⟨a, b', hTO⟩, ⟨o1, e1, c1, d1⟩, ⟨o2, e2, c2, d2⟩⟩ := st
    simp only [List.mem_cons, List.not_mem_nil, or_false] at hb
    rcases hb with rfl | rfl | rfl | rfl | rfl
    · exact ⟨_, hz, fun v q => by cases q⟩
    · exact ⟨_, hTI, fun v q => by cases q⟩
    · exact ⟨_, hTO, fun v q => by cases q⟩
    · exact ⟨_, e1, fun v q => by rw [d1] at q; cases q⟩
    · exact ⟨_, e2, fun v q => by rw [d2] at q; cases q⟩
  keep := fun i h h' st k => by
    obtain ⟨hz, hTI, ⟨a, b', hTO⟩, h1, h2⟩ := st
    exact ⟨k z (by simp) _ hz, k TI (by simp) _ hTI, ⟨a, b', k TO (by simp) _ hTO⟩, h1.at fun o e => k i1 (by simp) o e, h2.at fun o e => k i2 (by simp) o e⟩
  item := by
    intro X hP hw hK hc i pins s σ H E I hf st hg
    subst hP hw hK
    obtain ⟨xs, ys, x, y, q1, q2, hx, hy⟩ := hg
    obtain ⟨its1, rv1, p1, hz1⟩ := I.list q1
    obtain ⟨its2, rv2, p2, hz2⟩ := I.list q2
    obtain ⟨u1, hu1, ru1⟩ := rv1.get hx
    obtain ⟨u2, hu2, ru2⟩ := rv2.get hy
    have DA := D.apart st p1.isList p2.isList
    obtain ⟨hz, hTI, ⟨a, b', hTO⟩, h1, h2⟩ := id st
    refine wpAny_pyNext_zip_item DA hz hTI hTO h1 h2 p1.isList p2.isList (x := u1) (y := u2) (by simpa using hu1) (by simpa using hu2) fun h' a1 a2 a3 a4 a5 a6 hk => ?_
    refine ⟨_, rfl, wpAny_letOwnedTupleGo_zip a1 fun h'' hz'' sb => ?_⟩
    have lt : ∀ {c o}, s.heap.get? c = some o → s.heap.objs.size ≠ c := fun e => Nat.ne_of_gt (Heap.lt_size e)
    have a5' : IsPair h'' s.heap.objs.size u1 u2 := sb.extBut _ _ (lt hz) a5
    have kk : ∀ b o, b ∉ [z, TI, TO, i1, i2] → s.heap.get? b = some o → h''.get? b = some o := fun b o hb e => by
      simp only [List.mem_cons, List.not_mem_nil, or_false, not_or] at hb
      exact sb.extBut _ _ hb.1 (hk b o hb.1 hb.2.2.1 hb.2.2.2.1 hb.2.2.2.2 e)
    have I1 : Inv X pins σ (upd H s.heap.objs.size (.tup [x, y])) { s with heap := h'' } :=
      I.turnLaid (t' := s.toks) (ch := [z, TI, TO, i1, i2]) hf kk (Nat.le_refl _) ⟨by show 2 ≤ sizeLine; decide, [u1, u2], .cons ru1 (.cons ru2 .nil), _, a5', rfl, _, rfl⟩
    refine ⟨.ref s.heap.objs.size, _, I1, rfl, ⟨s.heap.objs.size, x, y, I.fresh, rfl, rfl, fun zs hs => by rw [I.list_inj hs q1]; exact hx, fun zs hs => by rw [I.list_inj hs q2]; exact hy⟩, ?_, fun b hb => ?_⟩
    · exact ⟨hz'', sb.extBut _ _ D.TIz (hk _ _ D.TIz D.TITO D.TIi1 D.TIi2 hTI), ⟨_, _, sb.extBut _ _ D.TOz a2⟩, a3.extBut sb.extBut D.i1z, a4.extBut sb.extBut D.i2z⟩
    · obtain ⟨o, e, _⟩ : ∃ o, s.heap.get? b = some o ∧ True := by
        obtain ⟨hz, hTI, ⟨a, b', hTO⟩, ⟨o1, e1, c1, d1⟩, ⟨o2, e2, c2, d2⟩⟩ := st
        simp only [List.mem_cons, List.not_mem_nil, or_false] at hb
        rcases hb with rfl | rfl | rfl | rfl | rfl
        · exact ⟨_, hz, trivial⟩
        · exact ⟨_, hTI, trivial⟩
        · exact ⟨_, hTO, trivial⟩
        · exact ⟨_, e1, trivial⟩
        · exact ⟨_, e2, trivial⟩
      rw [upd_ne (Ne.symm (lt e))]
      exact (hf b hb).1
  done := by
    intro X hP hw hK hc i pins s σ H E I hf st hg
    subst hP hw hK
    obtain ⟨xs, ys, q1, q2, hx⟩ := hg
    obtain ⟨its1, rv1, p1, hz1⟩ := I.list q1
    obtain ⟨its2, rv2, p2, hz2⟩ := I.list q2
    have DA := D.apart st p1.isList p2.isList
    obtain ⟨hz, hTI, ⟨a, b', hTO⟩, h1, h2⟩ := id st
    have l1' := rv1.length
    have l2' := rv2.length
    refine wpAny_pyNext_zip_end (I.ok.hd hc) DA hz hTI hTO h1 h2 p1.isList p2.isList ?_ fun h' hk => ⟨rfl, I.turnedN (t' := s.toks) (ch := [z, TI, TO, i1, i2]) hf fun b o hb e => ?_⟩
    · rcases hx with hx | hx
      · left; simp; omega
      · right; simp; omega
    · simp only [List.mem_cons, List.not_mem_nil, or_false, not_or] at hb
      exact hk b o hb.1 hb.2.2.1 hb.2.2.2.1 hb.2.2.2.2 e
  self := fun _ _ _ _ _ st h => wpAny_pyIter_zip st.1 h
section
variable {X : Cx}
theorem boot_zip : bootBuiltins "zip" = some (.type "zip") := by decide +kernel
def iZip (K : PySem.W.Frag) (ta : TA) : TI := fun σ H R => ta σ H fun vs H1 => ∃ a b, vs = [.ref a, .ref b] ∧ (∃ xs, SqL K H1 a xs) ∧ (∃ ys, SqL K H1 b ys) ∧ R (Itz K a b) H1
theorem pi_zip {a b : Expr} {ta : TA} {p pos : Pos} {elts : List Expr} {x1 : Nat} {tpos : Pos} (hg : Gl X "zip") (hm : X.mg "zip" = none) (ha : PA X [a, b] ta) (hs : starEach [a, b] X.env = (false, eval a X.env) :: starEach [b] X.env := by rfl) (hs2 : (backTo pos (starEach [b] X.env)).any (·.1) = false := by rfl) :
    PI X (.Tuple elts x1 tpos) (.Call (.Name "zip" p) [a, b] [] pos) (iZip X.K ta) := by
  intro pins s σ H R I h
  refine Call_ (ld_blt I hg hm boot_zip (PyProof.Rows.callWith_type1 (thn (ha pos pins s σ H _ I h) fun us s1 ⟨vs, H1, I1, r1, q1⟩ => ?_) hs hs2))
  obtain ⟨l1, l2, e, ⟨xs, hx⟩, ⟨ys, hy⟩, q⟩ := q1
  subst e
  cases r1 with
  | cons r rr =>
    cases rr with
    | cons r' rr =>
      cases rr
      cases r
      cases r'
      obtain ⟨its1, rv1, p1, _⟩ := I1.list hx
      obtain ⟨its2, rv2, p2, _⟩ := I1.list hy
      refine call_zip_2 p1.isList p2.isList fun h' a1 a2 a3 a4 a5 a6 hk => ?_
      refine wpAny_pyIter_zip a1 ?_
      have big : ∀ b ∈ [s1.heap.objs.size + 4, s1.heap.objs.size + 2, s1.heap.objs.size + 3, s1.heap.objs.size, s1.heap.objs.size + 1], s1.heap.objs.size ≤ b := fun b hb => by
        simp only [List.mem_cons, List.not_mem_nil, or_false] at hb
        omega
      refine ⟨s1.heap.objs.size + 4, [s1.heap.objs.size + 4, s1.heap.objs.size + 2, s1.heap.objs.size + 3, s1.heap.objs.size, s1.heap.objs.size + 1], _, _, H1, rfl, I1.kept (t' := s1.toks) fun b o e => hk b o e, turn_zip ?_, ⟨a1, a2, ⟨_, _, a3⟩, a4, a5⟩, fun b hb => ?_, q⟩
      · constructor <;> (show ¬ ((_ : Nat) = _); omega)
      · exact I1.fpOk (big b hb) (I1.hok.fresh (big b hb))
end
end L2
set_option maxRecDepth 100000
namespace L2
open PySem PySem.Spec PyProof.Rows
theorem compLoopT {prog : Program} {w : World} {A : Around} {s0 : Shared} {R : Result → Shared → Prop} {el tgt src : Expr} {fs : List Expr} {sc : Scope} {ps : Pos} {itv av : Value} {ev : Env} (Iv : Nat → Shared → Prop)
    (tn : ∀ n s, Iv n s → wpAny (model prog w) A (pyNext itv) (fun r sa => match r with
      | none => R (.ok .next) sa
      | some v => wpAny (model prog w) A (letOwnedTupleGo tgt itv v) (fun _ sg => wpAny (model prog w) A (assign tgt ev v) (fun _ sb => wpAny (model prog w) A (forIn fs true fun c r => if r = true then do let ok ← isTrue c ev (eval c ev); pure (ForInStep.yield ok) else pure (ForInStep.yield r)) (fun ok sc' =>
            if ok = true then wpAny (model prog w) A (eval el ev) (fun x sd => wpAny (model prog w) A (call (.builtin "list.append") [av, x]) (fun _ se => ∃ m, m < n ∧ Iv m se) (notedBy (model prog w) A ev fun e s' => R (.error e) s') sd) (notedBy (model prog w) A ev fun e s' => R (.error e) s') sc'
            else ∃ m, m < n ∧ Iv m sc') (notedBy (model prog w) A ev fun e s' => R (.error e) s') sb) (notedBy (model prog w) A ev fun e s' => R (.error e) s') sg) (notedBy (model prog w) A ev fun e s' => R (.error e) s') sa) (notedBy (model prog w) A ev fun e s' => R (.error e) s') s)
    (n0 : Nat) (h0 : Iv n0 s0) : codeAny (model prog w) A (.compLoop (.ListComp el [⟨tgt, src, fs, 0⟩] sc ps) 0 itv av ev) R s0 := by
  refine codeAny_loop rfl Iv (fun k t hk => ?_) n0 h0
  show wpAny _ A ((compTurn (.ListComp el [⟨tgt, src, fs, 0⟩] sc ps) 0 itv av ev).onRaise (fun x => do noteFrame x ev; theTreesLotGoes x)) _ _ t
  refine wpAny_noted ?_
  rw [compTurn_list]
  refine wpAny_bind (wpAny_standAt (wpAny_bind (wpAny_mono (tn k t hk) (fun r sa ha => ?_) fun _ _ z => z)))
  rcases r with _ | v
  · exact wpAny_pure ha
  · refine wpAny_bind (wpAny_mono ha (fun _ sb hb' => wpAny_bind (wpAny_mono hb' (fun _ sc' hc => wpAny_bind (wpAny_mono hc (fun ok sd hd => ?_) fun _ _ z => z)) fun _ _ z => z)) fun _ _ z => z)
    rcases ok with _ | _
    · exact wpAny_pure ⟨rfl, hd⟩
    · exact wpAny_bind (wpAny_bind (wpAny_mono hd (fun x se he => wpAny_bind (wpAny_mono he (fun _ sf hf => wpAny_pure (wpAny_pure ⟨rfl, hf⟩)) fun _ _ z => z)) fun _ _ z => z))
structure CompScT (X : Cx) (scope : Scope) (cl : List (Str × Addr)) (n : Nat) (fr : List Nat) (N' : List Str) : Prop where
  clos : closureFor scope X.env = pure cl
  nocell : ∀ y ∈ scope.names, y.2 ≠ .cell
  kind : scope.kind = .function
  names : ∀ y ∈ scope.names, y.2 = .local → scope.names.lookup y.1 = some .local
  nd : N'.Nodup
  len : N'.length = n + fr.length
  free : ∀ i j, fr[i]? = some j → ∃ y, X.N[j]? = some y ∧ N'[n + i]? = some y ∧ (X.env.kindOf y = some .cell ∨ X.env.kindOf y = some .free) ∧ cl.lookup y = X.env.cells.lookup y ∧
    ((relabel scope X.env).names.lookup y = some .cell ∨ (relabel scope X.env).names.lookup y = some .free)
  sub : ∀ y c, cl.lookup y = some c → X.env.cells.lookup y = some c
  has : ∀ y, ((relabel scope X.env).names.lookup y = some .cell ∨ (relabel scope X.env).names.lookup y = some .free) → ∃ c, cl.lookup y = some c
def innT (fr : List Nat) (σ : St) (vs : List (Option V)) : St := vs ++ fr.map fun j => (σ[j]?).join
def tCompT (wi : TI) (n : Nat) (fr : List Nat) (g : TG) (tt : TT) (te : TE) : TE := fun σ H Q => wi σ H fun J H1 => ∀ D, H1 D = none → ∃ W : Nat → Nat → List V → Hp → Prop, (∃ m, W 0 m [] (upd H1 D (.lst []))) ∧
  ∀ i m ys H, W i m ys H → (J.stop i H ∧ Q (.ref D) H) ∨ (J.go i H ∧ ∀ x H', J.yld i H x H' → ∀ vs, vs.length = n → g x (innT fr σ vs) H' fun σ8 H8 => (∃ vs', vs'.length = n ∧ σ8 = innT fr σ vs') ∧ tt σ8 H8 fun c H2 => if c = true then te σ8 H2 fun v H3 =>
    H3 D = some (.lst ys) ∧ ys.length < sizeLine ∧ ∃ m', m' < m ∧ W (i + 1) m' (ys ++ [v]) (upd H3 D (.lst (ys ++ [v]))) else ∃ m', m' < m ∧ W (i + 1) m' ys H2)
section
variable {X : Cx} {scope : Scope} {cl : List (Str × Addr)} {n : Nat} {fr : List Nat} {N' : List Str} {pins : List (Addr × Obj)} {σ : St} {H : Hp} {s : Shared} {fp : List Addr} {C : Addr}
theorem cxCompT_ok (S : CompScT X scope cl n fr N') (I : Inv X pins σ H s) (hf : ∀ b ∈ fp, FpOk X pins H b) (hlt : ∀ b ∈ fp, b < s.heap.objs.size) (hC : s.heap.objs.size ≤ C) : (cxComp X pins scope cl C N' fp s H).Ok := by
  have lt : ∀ b ∈ fp, b ∉ frs X.stack := fun b hb z => by
    obtain ⟨_, f1, f2, _⟩ := hf b hb
    rcases List.mem_cons.mp (I.stkSub b z) with e | e
    · exact f1 e
    · exact f2 e
  refine ⟨I.ok.mod, S.kind, I.ok.glob, I.ok.blt, hC, fun y z c h1 h2 => I.ok.inj y z c (S.sub y c h1) (S.sub z c h2), fun y hy => S.has y hy, fun _ _ z => Bool.noConfusion z, I.ok.hd, I.ok.frames, .inl rfl, fun b hb => ⟨?_, fun y c e => ?_⟩, fun b o e => I.bs b o e,
    Nat.le_trans I.ok.bsz I.sz, fun b o e hb => ?_, lt, I.stack, I.stkFree⟩
  · exact Nat.ne_of_lt (Nat.lt_of_lt_of_le (hlt b hb) hC)
  · exact (hf b hb).2.2.2.2.1 y c (S.sub y c e)
  · rcases (hf b hb).2.2.2.1 with z | z
    · exact I.ok.noex b o e z
    · exact absurd (Nat.lt_of_lt_of_le (Heap.lt_size e) (Nat.le_trans I.ok.bsz z)) (Nat.lt_irrefl _)
theorem compT_start {h1 : Heap} {D : Addr} {t' : Nat} {m : Str → Option Value} (S : CompScT X scope cl n fr N') (I : Inv X pins σ H s) (hf : ∀ b ∈ fp, FpOk X pins H b) (hlt : ∀ b ∈ fp, b < s.heap.objs.size)
    (hD : D = s.heap.objs.size) (hC : C = s.heap.objs.size + 1) (hn : h1.Ns C m) (keep : ∀ b o, s.heap.get? b = some o → h1.get? b = some o) (new : h1.get? D = some { cls := .type "list", data := .seq #[] 0 }) :
    Inv (cxComp X pins scope cl C N' fp s H) [] (innT fr σ (List.replicate n none)) (upd H D (.lst [])) { s with heap := h1, toks := t' } := by
  have hCl : s.heap.objs.size ≤ C := by rw [hC]; exact Nat.le_succ _
  have nCD : C ≠ D := by rw [hC, hD]; exact Nat.ne_of_gt (Nat.lt_succ_self _)
  have hDn : H D = none := by rw [hD]; exact I.hok.fresh (Nat.le_refl _)
  have neD : ∀ b o, s.heap.get? b = some o → b ≠ D := fun b o e => by rw [hD]; exact Nat.ne_of_lt (Heap.lt_size e)
  have okD : HOk X.prog X.w (upd H D (.lst [])) h1 := I.hok.laid keep (by rw [hD]; exact Nat.le_refl _) ⟨Nat.zero_le _, [], 0, .nil, new⟩
  refine ⟨cxCompT_ok S I hf hlt hCl, rfl, I.bare, Un.laid keep (by rw [hD]; exact Nat.le_refl _) hDn, ⟨m, hn, fun i y v e1 e2 e3 => ?_⟩, fun y c e => ?_, ?_, fun y c e => ?_, fun p hp => ?_, okD, ?_⟩
  · by_cases hi : i < n
    · have e2' : (innT fr σ (List.replicate n none))[i]? = some none := by
        unfold innT
        rw [List.getElem?_append_left (by simpa using hi)]
        simp [hi]
      rw [e2'] at e2
      cases e2
    · obtain ⟨k, rfl⟩ : ∃ k, i = n + k := ⟨i - n, by omega⟩
      have e2' : (fr.map fun j => (σ[j]?).join)[k]? = some (some v) := by
        have z : (innT fr σ (List.replicate n none))[n + k]? = some (some v) := e2
        unfold innT at z
        rw [List.getElem?_append_right (by simp)] at z
        simpa using z
      rw [List.getElem?_map] at e2'
      cases q : fr[k]? with
      | none => rw [q] at e2'; cases e2'
      | some j =>
        rw [q] at e2'
        obtain ⟨y', n1, n2, k1, k2, k3⟩ := S.free k j q
        have ey : y' = y := Option.some.inj (n2.symm.trans e1)
        subst ey
        have sj : σ[j]? = some (some v) := by
          have z : (σ[j]?).join = some v := Option.some.inj e2'
          cases r : σ[j]? with
          | none => rw [r] at z; cases z
          | some w => rw [r] at z; exact congrArg some z
        obtain ⟨m0, _, hl⟩ := I.loc
        have vis : Vis X.env.scope y' := by
          rcases k1 with k | k
          · exact .inr (.inl k)
          · exact .inr (.inr k)
        obtain ⟨u, ru, lk⟩ := hl j y' v n1 sj vis
        refine ⟨u, ru, .inr ⟨k3, ?_⟩⟩
        rcases lk with ⟨k, _⟩ | ⟨_, c, ec, ic⟩
        · rcases k1 with k' | k' <;> (rw [k'] at k; cases k)
        · refine ⟨c, k2.trans ec, ?_⟩
          obtain ⟨oc, hoc, hd⟩ := ic
          exact ⟨oc, keep c oc hoc, hd⟩
  · obtain ⟨v, oc, hoc, hd⟩ := I.cell y c (S.sub y c e)
    exact ⟨v, oc, keep c oc hoc, hd⟩
  · show upd H D (.lst []) C = none
    rw [upd_ne nCD]
    exact I.hok.fresh hCl
  · obtain ⟨v, oc, hoc, hd⟩ := I.cell y c (S.sub y c e)
    rw [upd_ne (neD c oc hoc)]
    exact I.freeC y c (S.sub y c e)
  · have hp' : p ∈ X.pn ++ pins := by
      rcases List.mem_append.mp hp with z | z
      · exact z
      · exact absurd z (by simp)
    obtain ⟨e, n, ne, nf, d⟩ := I.pin p hp'
    refine ⟨keep _ _ e, ?_, ?_, fun z => ?_, d⟩
    · rw [upd_ne (neD _ _ e)]; exact n
    · exact Nat.ne_of_lt (Nat.lt_of_lt_of_le (Heap.lt_size e) hCl)
    · rcases List.mem_cons.mp (I.stkSub p.1 z) with q | q
      · exact ne q
      · exact nf q
  · show (innT fr σ (List.replicate n none)).length = N'.length
    rw [S.len]
    simp [innT]
end
end L2
set_option maxRecDepth 100000
namespace L2
open PySem PySem.Spec PyProof.Rows
end L2
set_option maxRecDepth 100000
namespace L2
open PySem PySem.Spec PyProof.Rows
def SameD (D : Addr) (H H' : Hp) : Prop := ∀ b o, b ≠ D → H b = some o → H' b = some o
theorem Same.toD {D : Addr} {H H' : Hp} (s : Same H H') : SameD D H H' := fun b o _ h => s b o h
theorem SameD.refl (D : Addr) (H : Hp) : SameD D H H := fun _ _ _ h => h
theorem SameD.trans {D : Addr} {H H1 H2 : Hp} (a : SameD D H H1) (b : SameD D H1 H2) : SameD D H H2 := fun c o n h => b c o n (a c o n h)
theorem SameD.upd {D : Addr} {H H1 : Hp} {o : HO} (a : SameD D H H1) : SameD D H (upd H1 D o) := fun c u n h => by rw [upd_ne n]; exact a c u n h
theorem SameD.same {D : Addr} {H H' : Hp} (s : SameD D H H') (h : H D = none) : Same H H' := fun b o q => s b o (fun z => by rw [z, h] at q; cases q) q
theorem SameD.seq {K : PySem.W.Frag} {D a : Addr} {H H' : Hp} {xs : List V} (s : SameD D H H') (n : a ≠ D) (h : SqL K H a xs) : SqL K H' a xs := by
  rcases h with (h | ⟨o, h⟩) | h
  · exact .inl (.inl (s _ _ n h))
  · exact .inl (.inr ⟨o, s _ _ n h⟩)
  · exact .inr h
theorem has_nil {sc : Scope} {env : Env} {l : List (Str × NameKind)} (hn : (relabel sc env).names = l) (hl : ∀ p ∈ l, p.2 ≠ .cell ∧ p.2 ≠ .free) :
    ∀ u, ((relabel sc env).names.lookup u = some .cell ∨ (relabel sc env).names.lookup u = some .free) → ∃ c : Addr, ([] : List (Str × Addr)).lookup u = some c := fun u h => by
  rw [hn] at h
  rcases h with h | h
  · exact absurd rfl (hl _ (PySem.mem_of_lookup h)).1
  · exact absurd rfl (hl _ (PySem.mem_of_lookup h)).2
end L2
set_option maxRecDepth 100000
namespace L2
open PySem PySem.Spec PyProof.Rows Xc
section
variable {X : Cx} {Ew : XK} {k : Nat} {f C : Addr} {fd : FuncData} {ps : List Str} {fl : List Str} {x : Str} {p pos cpos : Pos} {e : Expr} {es : List Expr} {t : TA}
end
end L2
set_option maxRecDepth 100000
namespace Xc
open PySem
section
variable {M : Model} {A : Around} {E : Value → Shared → Prop} {s : Shared} {e C L : Addr} {dd : Option Addr} {Q : Unit → Shared → Prop} {env : Env}
end
end Xc
namespace L2
open PySem PySem.Spec PyProof.Rows Xc
section
variable {X : Cx} {pins : List (Addr × Obj)} {σ : St} {H : Hp} {s : Shared} {M : Model} {E : Value → Shared → Prop} {Q : Unit → Shared → Prop} {e C T : Addr} {dd : Option Addr} {fl : Value}
end
section
variable {P : Program} {w : World} {K : PySem.W.Frag} {mg : Str → Option Value} {base : Heap} {N : List Str} {qual : Str} {scope : Scope} {f : Addr} {cd : Value} {A : Around} {outer : List Env} {s₀ : Shared} {H₀ : Hp} {E : XK}
end
end L2
set_option maxRecDepth 100000
namespace L2
open PySem PySem.Spec PyProof.Rows
theorem comp_list {K : PySem.W.Frag} {a : Addr} {xs : List V} {fr : List Nat} {te : TE} {σ : St} {H1 : Hp} {F : Hp → Prop} {D : Addr} (f : V → V) (ha : a ≠ D) (h1 : SqL K H1 a xs) (hz : xs.length < sizeLine)
    (he : ∀ (i : Nat) x H' (R : VK), xs[i]? = some x → SameD D H1 H' → (∀ H3, Same H' H3 → R (f x) H3) → te (inn fr σ (some x)) H' R) (hq : ∀ H3, SameD D H1 H3 → H3 D = some (.lst (xs.map f)) → F H3) :
    ∃ W : Nat → Nat → List V → Hp → Prop, (∃ m, W 0 m [] (upd H1 D (.lst []))) ∧
      ∀ i m zs H, W i m zs H → ((Itl K a).stop i H ∧ F H) ∨ ((Itl K a).go i H ∧ ∀ x H', (Itl K a).yld i H x H' → tYes (inn fr σ (some x)) H' fun c H2 => if c = true then te (inn fr σ (some x)) H2 fun v H3 =>
          H3 D = some (.lst zs) ∧ zs.length < sizeLine ∧ ∃ m', m' < m ∧ W (i + 1) m' (zs ++ [v]) (upd H3 D (.lst (zs ++ [v]))) else ∃ m', m' < m ∧ W (i + 1) m' zs H2) := by
  refine ⟨fun i m zs H => m = xs.length - i ∧ i ≤ xs.length ∧ zs = (xs.take i).map f ∧ SameD D H1 H ∧ H D = some (.lst zs), ⟨_, rfl, Nat.zero_le _, rfl, SameD.upd (SameD.refl D H1), upd_same⟩, ?_⟩
  rintro i m zs H ⟨rfl, hi, rfl, sD, hDz⟩
  have s1 := sD.seq ha h1
  by_cases hlt : i < xs.length
  · refine .inr ⟨⟨xs, xs[i], s1, List.getElem?_eq_getElem hlt⟩, ?_⟩
    rintro x H' ⟨rfl, e1⟩
    have ex := e1 _ s1
    show te (inn fr σ (some x)) _ _
    refine he i x _ _ ex sD fun H3 s3 => ⟨s3 _ _ hDz, ?_, _, ?_, rfl, hlt, ?_, SameD.upd (sD.trans s3.toD), upd_same⟩
    · rw [List.length_map, List.length_take]
      omega
    · omega
    · rw [List.take_add_one, ex, List.map_append]
      rfl
  · have ei : i = xs.length := by omega
    refine .inl ⟨⟨xs, s1, by omega⟩, hq H sD ?_⟩
    rw [hDz, ei, List.take_length]
theorem mk_same {H1 H' : Hp} {x dx : Addr} {o o' : HO} (hx : H1 x = none) (hd : H1 dx = none) (s : SameD x (upd (upd H1 dx o) x o') H') : Same H1 H' := fun b u h => by
  have n1 : b ≠ x := ne_of_none h hx
  have n2 : b ≠ dx := ne_of_none h hd
  exact s b u n1 (by rw [upd_ne n1, upd_ne n2]; exact h)
theorem mk_free {H1 : Hp} {x dx z : Addr} {o o' : HO} (h : (upd (upd H1 dx o) x o') z = none) : H1 z = none := by
  by_cases n1 : z = x
  · rw [n1, upd_same] at h; cases h
  · rw [upd_ne n1] at h
    by_cases n2 : z = dx
    · rw [n2, upd_same] at h; cases h
    · rw [upd_ne n2] at h; exact h
structure CMk (P : Program) (w : World) (K : PySem.W.Frag) (mg : Str → Option Value) (base : Heap) (k : Nat) (x : Str) (C : Addr) (ps : List Str) (sp : Sp) : Prop where
  is : ∃ (f : Addr) (fd : FuncData), mg x = some (.ref C) ∧ Mk K C f ∧ Binds K fd ps [] ∧ FnOk P w K mg base CX0 k f fd ps sp
end L2
set_option maxRecDepth 100000
namespace L2
open PySem PySem.Spec PyProof.Rows
end L2
set_option maxRecDepth 100000
namespace L2
open PySem PySem.Spec PyProof.Rows
section
variable {X : Cx} {scope : Scope} {cl : List (Str × Addr)} {n : Nat} {fr : List Nat} {N' : List Str} {pins : List (Addr × Obj)} {σ : St} {H : Hp} {s : Shared} {fp : List Addr} {C : Addr}
theorem ps_setT {elt iter tg : Expr} {ifs : List Expr} {pos spos py : Pos} {y0 : Str} {i0 : Nat} {wi : TI} {g : TG} {tt : TT} {te : TE} (S : CompScT X scope cl n fr N') (hN : X.N.Nodup) (hi0 : X.N[i0]? = some y0) (hx0 : Loc X.env.scope y0) (hf0 : X.fn y0 = true ∨ X.env.scope.names.lookup y0 = some .local) (hsw : swapsWith (.ListComp elt [⟨tg, iter, ifs, 0⟩] scope pos) (some (.Name y0 py)) spos.line X.env = pure true) (hc : X.calm = true) (hi : PI X tg iter wi) (hg : ∀ pins C fp s H, PG (cxComp X pins scope cl C N' fp s H) tg g)
    (ht : ∀ pins C fp s H, PIfs (cxComp X pins scope cl C N' fp s H) ifs tt) (he : ∀ pins C fp s H, PE (cxComp X pins scope cl C N' fp s H) elt te)
    (hs : ∀ y, foldedSetIterable iter X.env y = pure y := by intro _; rfl) : PS X (.Assign [.Name y0 py] (.ListComp elt [⟨tg, iter, ifs, 0⟩] scope pos) spos) (tAsg (tCompT wi n fr g tt te) (gName i0)) := by
  intro pins s σ H D0 I h
  rw [exec_Assign_Name_used _ _ _ _ hsw]
  refine wpAny_bind (wpAny_standAt (wpAny_bind ?_))
  show wpAny _ X.A (do let _ ← comprehension (.ListComp elt [⟨tg, iter, ifs, 0⟩] scope pos) scope X.env _ (newList []) false (eval iter X.env) (some (assign (.Name y0 py) X.env))) _ _ s
  refine wpAny_bind (wpAny_mono (wpAny_comprehension_free (use := some (assign (.Name y0 py) X.env)) (cl := cl) (Q := fun _ s' => SP X pins D0 .next s') rfl hs S.clos S.kind S.names (thn (hi pins s σ H _ I h) fun v s1 h1 => thn h1 fun itv s2 h2 => ?_)) (fun _ s' hq => wpAny_pure (wpAny_pure hq)) fun _ _ e => e)
  obtain ⟨it, fp, tn, J, H2, e, I2, T, st2, f2, hW⟩ := h2
  subst e
  refine wpAny_newObj_type (wpAny_newFunctionEnv S.nocell (by intro y hy; simp at hy) (fun h1 hns sb => ?_) S.kind)
  have hsz : (s2.heap.push { cls := .type "list", data := .seq (List.toArray ([] : List Value)) }).objs.size = s2.heap.objs.size + 1 := Heap.size_push _ _
  have hlt : ∀ b ∈ fp, b < s2.heap.objs.size := fun b hb => by
    obtain ⟨o, e, _⟩ := T.obj 0 _ st2 b hb
    exact Heap.lt_size e
  have keep : ∀ b o, s2.heap.get? b = some o → h1.get? b = some o := fun b o e => by
    refine (sb.2 b ?_).trans (Heap.get?_push_of_some _ (Heap.get?_push_of_some _ e))
    exact Nat.ne_of_lt (Nat.lt_of_lt_of_le (Heap.lt_size e) (by show _ ≤ (s2.heap.push _).objs.size; rw [Heap.size_push]; exact Nat.le_succ _))
  have new : h1.get? s2.heap.objs.size = some { cls := .type "list", data := .seq #[] 0 } := by
    refine (sb.2 _ ?_).trans (Heap.get?_push_of_some _ (Heap.get?_push_size _ rfl))
    exact Nat.ne_of_lt (by show _ < (s2.heap.push _).objs.size; rw [Heap.size_push]; exact Nat.lt_succ_self _)
  obtain ⟨W, ⟨m0, w0⟩, turn⟩ := hW s2.heap.objs.size (I2.hok.fresh (Nat.le_refl _))
  have hCl : s2.heap.objs.size ≤ s2.heap.objs.size + 1 := Nat.le_succ _
  -- the block's context
  generalize hX' : cxComp X pins scope cl (s2.heap.objs.size + 1) N' fp s2 H2 = X'
  have okX : X'.Ok := by rw [← hX']; exact cxCompT_ok S I2 f2 hlt hCl
  have eP : X'.prog = X.prog := by rw [← hX']; rfl
  have eW : X'.w = X.w := by rw [← hX']; rfl
  have eK : X'.K = X.K := by rw [← hX']; rfl
  have eA : X'.A = X.A := by rw [← hX']; rfl
  have eE : X'.env = compEnvC scope cl (s2.heap.objs.size + 1) X.env := by rw [← hX']; rfl
  have eN : X'.N = N' := by rw [← hX']; rfl
  have ec : X'.calm = true := by rw [← hX']; exact hc
  have ex : X'.ex = fp := by rw [← hX']; rfl
  have epn : X'.pn = X.pn ++ pins := by rw [← hX']; rfl
  have exe : X'.xe = fun _ _ => False := by rw [← hX']; rfl
  have fok : ∀ {H' : Hp}, (∀ b ∈ fp, H' b = none) → ∀ b ∈ fp, FpOk X' [] H' b := fun hn b hb => by
    have hb' : b ∈ X'.ex := by rw [ex]; exact hb
    refine ⟨hn b hb, (okX.exf b hb').1, okX.exfs b hb', .inl hb', fun y c e => (okX.exf b hb').2 y c e, fun p hp => ?_⟩
    rw [epn, List.append_nil] at hp
    exact (f2 b hb).2.2.2.2.2 p hp
  have gx := hg pins (s2.heap.objs.size + 1) fp s2 H2
  have he' := he pins (s2.heap.objs.size + 1) fp s2 H2
  have ht' := ht pins (s2.heap.objs.size + 1) fp s2 H2
  rw [hX'] at he' ht' gx
  have loop : ∀ s4, Inv X' [] (innT fr σ (List.replicate n none)) (upd H2 s2.heap.objs.size (.lst [])) s4 → tn 0 s4.heap →
      codeAny (model X.prog X.w) X.A (.compLoop (.ListComp elt [⟨tg, iter, ifs, 0⟩] scope pos) 0 (.ref it) (.ref s2.heap.objs.size) (compEnvC scope cl (s2.heap.objs.size + 1) X.env))
        (compPost (model X.prog X.w) X.A X.xe (some (assign (.Name y0 py) X.env)) (fun _ s' => SP X pins D0 .next s') (.ref s2.heap.objs.size) (s2.heap.objs.size + 1)) s4 := by
    intro s4 I4 st4
    refine compLoopT (fun n' s' => ∃ i ys vs H', vs.length = n ∧ Inv X' [] (innT fr σ vs) H' s' ∧ tn i s'.heap ∧ (∀ b ∈ fp, H' b = none) ∧ W i n' ys H') (fun n' s5 h5 => ?_) m0 ⟨0, [], List.replicate n none, _, by simp, I4, st4, fun b hb => ?_, w0⟩
    · obtain ⟨i, ys, vs, H5, hvs, I5, st5, fr5, w5⟩ := h5
      rcases turn i n' ys H5 w5 with ⟨stop, q⟩ | ⟨go, step⟩
      · have z := T.done X' eP eW eK ec i [] s5 _ H5 (fun _ _ => False) I5 (fok fr5) st5 stop
        rw [eA] at z
        refine wpAny_mono z (fun r s6 ⟨hr, I6⟩ => ?_) fun _ _ z => z.elim
        subst hr
        obtain ⟨m6, hn6, _⟩ := id I6.loc
        rw [eE] at hn6
        rw [← hX'] at I6
        have I6x : Inv X pins σ H5 s6 := comp_end (h' := s6.heap) I2 f2 hCl I6 ⟨rfl, fun _ _ => rfl⟩
        show wpAny _ X.A (assign (.Name y0 py) X.env (.ref s2.heap.objs.size)) _ _ s6
        have hCf : FpOk X pins H2 (s2.heap.objs.size + 1) := I2.fpOk hCl (I2.hok.fresh hCl)
        have hC5 : H5 (s2.heap.objs.size + 1) = none := I6.free
        refine wpAny_assign_Name (store_ok2 I6x hN hi0 hx0 (show RelV (.ref s2.heap.objs.size) (.ref s2.heap.objs.size) from rfl) (fun s7 I7 sb7 => ?_) hf0)
        obtain ⟨f0, c1, c2, c3, c4, c5⟩ := hCf
        obtain ⟨a7, sb, ha7⟩ := sb7
        have na : s2.heap.objs.size + 1 ≠ a7 := fun z => by
          rcases ha7 with e | e
          · exact c1 (z.trans e)
          · exact c4 y0 a7 e z.symm
        refine ⟨m6, hn6.sameBut sb na, fun h' sb' => ⟨_, H5, I7.turned (t' := s7.toks) (it := s2.heap.objs.size + 1) (fun b o hb e => (sb'.2 b hb).trans e) hC5 c1 c3 c4 c5, q⟩⟩
      · have z := T.item X' eP eW eK ec i [] s5 _ H5 (fun _ _ => False) I5 (fok fr5) st5 go
        rw [eA] at z
        refine wpAny_mono z (fun r s6 ⟨u, hr, h6⟩ => ?_) fun _ _ z => z.elim
        subst hr
        refine (wpAny_mono h6 (fun _ s7 ⟨y, H7, I7, ry, yl, st7, fr7⟩ => ?_) fun _ _ z => z.elim)
        have I7' := I7.pinned (fok fr7) (T.obj _ _ st7)
        have keepT : ∀ {σ' : St} {H' : Hp} {s' : Shared}, Inv X' ([] ++ pinsAt fp s7.heap) σ' H' s' → tn (i + 1) s'.heap ∧ ∀ b ∈ fp, H' b = none := fun {σ' H' s'} I' => by
          refine ⟨T.keep _ _ _ st7 fun b hb o e => (I'.pin (b, o) (List.mem_append_right _ (List.mem_append_right _ (mem_pinsAt hb e)))).1, fun b hb => ?_⟩
          obtain ⟨o, e, _⟩ := T.obj _ _ st7 b hb
          exact (I'.pin (b, o) (List.mem_append_right _ (List.mem_append_right _ (mem_pinsAt hb e)))).2.1
        have z := gx _ s7 _ H7 y u _ I7' ry (step y H7 yl vs hvs)
        rw [eA, eP, eW, eE, exe] at z
        refine wpAny_mono z (fun _ s8 ⟨σ8, H8, I8, ⟨vs', hv', e8⟩, q8⟩ => ?_) fun _ _ z => z.elim
        subst e8
        have z := ht' _ s8 _ H8 _ I8 q8
        rw [eA, eP, eW, eE, exe] at z
        refine wpAny_mono z (fun c s9 ⟨H9, I9, q9⟩ => ?_) fun _ _ z => z.elim
        cases c with
        | false =>
          rw [if_neg Bool.false_ne_true] at q9 ⊢
          obtain ⟨m', hm, w9⟩ := q9
          exact ⟨m', hm, i + 1, ys, vs', H9, hv', I9.unpinned, (keepT I9).1, (keepT I9).2, w9⟩
        | true =>
          rw [if_pos rfl] at q9 ⊢
          have z := he' _ s9 _ H9 _ I9 q9
          rw [eA, eP, eW, eE, exe] at z
          refine wpAny_mono z (fun xv s10 ⟨v', H10, I10, rv, hD, hz, m', hm, w10⟩ => ?_) fun _ _ z => z.elim
          have z := mt_append (X := X') _ s10 _ H10 (.ref s2.heap.objs.size) [v'] _ [xv] (fun _ H11 => H11 = upd H10 s2.heap.objs.size (.lst (ys ++ [v']))) I10 rfl (.cons rv .nil) ⟨_, ys, v', rfl, rfl, hD, hz, rfl⟩
          rw [eA, eP, eW, exe] at z
          refine wpAny_mono z (fun _ s11 ⟨_, H11, I11, _, e11⟩ => ?_) fun _ _ z => z.elim
          subst e11
          exact ⟨m', hm, i + 1, ys ++ [v'], vs', _, hv', I11.unpinned, (keepT I11).1, (keepT I11).2, w10⟩
    · rw [upd_ne (Nat.ne_of_lt (hlt b hb))]
      exact (f2 b hb).1
  have start : Inv X' [] (innT fr σ (List.replicate n none)) (upd H2 s2.heap.objs.size (.lst [])) { s2 with heap := h1, toks := s2.toks } := by
    rw [← hX']
    exact compT_start (t' := s2.toks) S I2 f2 hlt rfl rfl (by rw [← hsz]; exact hns) keep new
  have st1 : tn 0 h1 := T.keep _ _ _ st2 fun b hb o e => keep b o e
  have fin := codeAny_compStart_list (rest := []) (loop _ start st1) (T.self X.A 0 _ _ (notedBy (model X.prog X.w) X.A (compEnvC scope cl (s2.heap.objs.size + 1) X.env) fun e s' => compPost (model X.prog X.w) X.A X.xe (some (assign (.Name y0 py) X.env)) (fun _ s' => SP X pins D0 .next s') (.ref s2.heap.objs.size) (s2.heap.objs.size + 1) (.error e) s') st1 (loop _ start st1))
  rw [← hsz] at fin
  exact fin
end
end L2
set_option maxRecDepth 100000
namespace L2
open PySem PySem.Spec PyProof.Rows
def Ite (K : PySem.W.Frag) (l : Addr) : It :=
  ⟨fun i H => ∃ xs x, SqL K H l xs ∧ xs[i]? = some x,
   fun i H v H' => ∃ T x, H T = none ∧ v = .ref T ∧ H' = upd H T (.tup [.int i, x]) ∧ (∀ xs, SqL K H l xs → xs[i]? = some x),
   fun i H => ∃ xs, SqL K H l xs ∧ xs.length ≤ i⟩
def enumT (e it l : Addr) (i : Nat) (h : Heap) : Prop := (∃ old, IsEnum h e it i old) ∧ h.IsListIter it l i
theorem turn_enum {P : Program} {w : World} {K : PySem.W.Frag} {elts : List Expr} {x1 : Nat} {tpos : Pos} {e it l : Addr} (hei : e ≠ it) :
    Turn P w K (.Tuple elts x1 tpos) (Ite K l) [e, it] e (enumT e it l) where
  mem := by simp
  obj := fun i h st b hb => by
    obtain ⟨⟨old, he⟩, ⟨o1, e1, c1, d1⟩⟩ := st
    simp only [List.mem_cons, List.not_mem_nil, or_false] at hb
    rcases hb with rfl | rfl
    · exact ⟨_, he, fun v q => by cases q⟩
    · exact ⟨_, e1, fun v q => by rw [d1] at q; cases q⟩
  keep := fun i h h' st k => by
    obtain ⟨⟨old, he⟩, h1⟩ := st
    exact ⟨⟨old, k e (by simp) _ he⟩, h1.at fun o q => k it (by simp) o q⟩
  item := by
    intro X hP hw hK hc i pins s σ H E I hf st hg
    subst hP hw hK
    obtain ⟨xs, x, q1, hx⟩ := hg
    obtain ⟨its1, rv1, p1, hz1⟩ := I.list q1
    obtain ⟨u1, hu1, ru1⟩ := rv1.get hx
    obtain ⟨⟨old, he⟩, h1⟩ := id st
    refine wpAny_pyNext_enum_item he h1 p1.isList (x := u1) (by simpa using hu1) hei fun h' a1 a2 a3 a4 hk => ?_
    refine ⟨_, rfl, wpAny_letOwnedTupleGo_enum a1 fun h'' he'' sb => ?_⟩
    have lt : ∀ {c o}, s.heap.get? c = some o → s.heap.objs.size ≠ c := fun e => Nat.ne_of_gt (Heap.lt_size e)
    have a5' : h''.get? s.heap.objs.size = some { cls := .type "tuple", data := .seq #[.int i s.toks, u1] } := sb.extBut _ _ (lt he) a3
    have kk : ∀ b o, b ∉ [e, it] → s.heap.get? b = some o → h''.get? b = some o := fun b o hb q => by
      simp only [List.mem_cons, List.not_mem_nil, or_false, not_or] at hb
      exact sb.extBut _ _ hb.1 (hk b o hb.1 hb.2 q)
    have I1 : Inv X pins σ (upd H s.heap.objs.size (.tup [.int i, x])) { s with heap := h'', toks := s.toks + 1 } :=
      I.turnLaid (t' := s.toks + 1) (ch := [e, it]) hf kk (Nat.le_refl _) ⟨by show 2 ≤ sizeLine; decide, [.int i s.toks, u1], .cons ⟨s.toks, rfl⟩ (.cons ru1 .nil), _, a5', rfl, _, rfl⟩
    refine ⟨.ref s.heap.objs.size, _, I1, rfl, ⟨s.heap.objs.size, x, I.fresh, rfl, rfl, fun zs hs => by rw [I.list_inj hs q1]; exact hx⟩, ?_, fun b hb => ?_⟩
    · exact ⟨⟨_, by simpa using he''⟩, a2.extBut sb.extBut (Ne.symm hei)⟩
    · obtain ⟨o, q, _⟩ : ∃ o, s.heap.get? b = some o ∧ True := by
        obtain ⟨⟨old, he⟩, ⟨o1, e1, c1, d1⟩⟩ := st
        simp only [List.mem_cons, List.not_mem_nil, or_false] at hb
        rcases hb with rfl | rfl
        · exact ⟨_, he, trivial⟩
        · exact ⟨_, e1, trivial⟩
      rw [upd_ne (Ne.symm (lt q))]
      exact (hf b hb).1
  done := by
    intro X hP hw hK hc i pins s σ H E I hf st hg
    subst hP hw hK
    obtain ⟨xs, q1, hx⟩ := hg
    obtain ⟨its1, rv1, p1, hz1⟩ := I.list q1
    obtain ⟨⟨old, he⟩, h1⟩ := id st
    have l1' := rv1.length
    refine wpAny_pyNext_enum_end (I.ok.hd hc) he h1 p1.isList (by simp; omega) fun h' hk => ⟨rfl, I.turnedN (t' := s.toks) (ch := [e, it]) hf fun b o hb q => ?_⟩
    simp only [List.mem_cons, List.not_mem_nil, or_false, not_or] at hb
    exact hk b o hb.2 q
  self := fun _ _ _ _ _ st h => by
    obtain ⟨⟨old, he⟩, _⟩ := st
    exact wpAny_pyIter_enum he h
section
variable {X : Cx}
theorem boot_enumerate : bootBuiltins "enumerate" = some (.type "enumerate") := by decide +kernel
def iEnum (K : PySem.W.Frag) (ta : TA) : TI := fun σ H R => ta σ H fun vs H1 => ∃ a, vs = [.ref a] ∧ (∃ xs, SqL K H1 a xs) ∧ R (Ite K a) H1
theorem pi_enum {a : Expr} {ta : TA} {p pos : Pos} {elts : List Expr} {x1 : Nat} {tpos : Pos} (hg : Gl X "enumerate") (hm : X.mg "enumerate" = none) (ha : PA X [a] ta) (hs : starEach [a] X.env = (false, eval a X.env) :: starEach [] X.env := by rfl) (hs2 : (backTo pos (starEach [] X.env)).any (·.1) = false := by rfl) :
    PI X (.Tuple elts x1 tpos) (.Call (.Name "enumerate" p) [a] [] pos) (iEnum X.K ta) := by
  intro pins s σ H R I h
  refine Call_ (ld_blt I hg hm boot_enumerate (PyProof.Rows.callWith_type1 (thn (ha pos pins s σ H _ I h) fun us s1 ⟨vs, H1, I1, r1, q1⟩ => ?_) hs hs2))
  obtain ⟨l1, e, ⟨xs, hx⟩, q⟩ := q1
  subst e
  cases r1 with
  | cons r rr =>
    cases rr
    cases r
    obtain ⟨its1, rv1, p1, _⟩ := I1.list hx
    refine call_enumerate_list p1.isList fun h' a1 a2 a3 hk => ?_
    refine wpAny_pyIter_enum a1 ?_
    have big : ∀ b ∈ [s1.heap.objs.size + 1, s1.heap.objs.size], s1.heap.objs.size ≤ b := fun b hb => by
      simp only [List.mem_cons, List.not_mem_nil, or_false] at hb
      omega
    refine ⟨s1.heap.objs.size + 1, [s1.heap.objs.size + 1, s1.heap.objs.size], _, _, H1, rfl, I1.kept (t' := s1.toks) fun b o e => hk b o e, turn_enum ?_, ⟨⟨_, a1⟩, a2⟩, fun b hb => ?_, q⟩
    · show ¬ ((_ : Nat) = _); omega
    · exact I1.fpOk (big b hb) (I1.hok.fresh (big b hb))
end
theorem for_enum {K : PySem.W.Frag} {a : Addr} {xs : List V} {g : TG} {tb : TS} {D : Ends} {σ : St} {H : Hp} (Pv : Nat → St → Hp → Prop) (h0 : Pv 0 σ H) (hl : ∀ i σ H, i ≤ xs.length → Pv i σ H → SqL K H a xs)
    (hs : ∀ i x σ H T, xs[i]? = some x → Pv i σ H → H T = none → g (.ref T) σ (upd H T (.tup [.int i, x])) fun σ2 H2 => tb { D with nx := Pv (i + 1), ct := Pv (i + 1), bk := D.nx } σ2 H2) (hd : ∀ σ H, Pv xs.length σ H → D.nx σ H) :
    ∃ W : Nat → Nat → St → Hp → Prop, (∃ m, W 0 m σ H) ∧ ∀ i m σ H, W i m σ H →
      ((Ite K a).stop i H ∧ D.nx σ H) ∨ ((Ite K a).go i H ∧ ∃ N : St → Hp → Prop, (∀ σ' H', N σ' H' → ∃ m', m' < m ∧ W (i + 1) m' σ' H') ∧ ∀ x H', (Ite K a).yld i H x H' → g x σ H' fun σ2 H2 => tb { D with nx := N, ct := N, bk := D.nx } σ2 H2) := by
  refine ⟨fun i m σ H => m = xs.length - i ∧ i ≤ xs.length ∧ Pv i σ H, ⟨xs.length, by simp, Nat.zero_le _, h0⟩, ?_⟩
  rintro i m σ H ⟨rfl, hi, p⟩
  have q := hl i σ H hi p
  by_cases hlt : i < xs.length
  · refine .inr ⟨⟨xs, xs[i], q, by simp [hlt]⟩, Pv (i + 1), fun σ' H' p' => ⟨xs.length - (i + 1), by omega, rfl, hlt, p'⟩, fun v H' y => ?_⟩
    obtain ⟨T, x, hT, rfl, rfl, y⟩ := y
    exact hs i x σ H T (y xs q) p hT
  · have e : i = xs.length := by omega
    subst e
    exact .inl ⟨⟨xs, q, Nat.le_refl _⟩, hd σ H p⟩
end L2
set_option maxRecDepth 100000
namespace L2
open PySem PySem.Spec PyProof.Rows
theorem call_isC {X : Cx} : CallR X (.builtin "isinstance") (fun xs H Q => ∃ x t C b, xs = [x, .ref C] ∧ TyOf X.K H x t ∧ PySem.W.kitOne X.K t (.ref C) = some b ∧ Q (.bl b) H) := by
  intro pins s σ H xs us Q I r h
  obtain ⟨x, t, n, b, rfl, ty, e, q⟩ := h
  obtain ⟨u1, u2, rfl, r1, r2⟩ := r.two
  cases r2
  exact isinst_ok I r1 ty e fun tk => ⟨.bl b, H, I.tok tk, rfl, q⟩
structure TyC (K : PySem.W.Frag) (C : Addr) : Prop where
  cl : Cls K C
  ha : PySem.W.findIn K (.ref C) "__class__" = some (some (.builtin "object.__class__"))
  hn : PySem.W.specialIn K (.builtin "object.__class__") "__get__" = some (some (.builtin "getset_descriptor.__get__"))
  htk : PySem.W.takesIn K (.builtin "object.__class__") = some true
  hm : PySem.W.mroIn K C (.type "object") = some true
theorem TyC.of {K : PySem.W.Frag} {C a dx : Addr} {H : Hp} {fs : List (Str × V)} (h : TyC K C) (e : H a = some (.ins C dx fs)) : TyOf K H (.ref a) (.ref C) := .ins e h.cl h.ha h.hn h.htk h.hm
section
variable {K : PySem.W.Frag} {a : Addr} {xs : List V} {fr : List Nat} {te : TE} {σ : St} {H1 : Hp} {F : Hp → Prop} {D : Addr}
theorem comp_gen (R : Nat → V → Hp → Prop) (ha : a ≠ D) (h1 : SqL K H1 a xs) (hz : xs.length < sizeLine) (hst : ∀ i v H H', SameD D H H' → R i v H → R i v H')
    (he : ∀ (i : Nat) x H' (Q : VK), xs[i]? = some x → SameD D H1 H' → H' D ≠ none → (∀ v H3, Same H' H3 → R i v H3 → Q v H3) → te (inn fr σ (some x)) H' Q)
    (hq : ∀ H3 vs, SameD D H1 H3 → H3 D = some (.lst vs) → vs.length = xs.length → (∀ i v, vs[i]? = some v → R i v H3) → F H3) :
    ∃ W : Nat → Nat → List V → Hp → Prop, (∃ m, W 0 m [] (upd H1 D (.lst []))) ∧
      ∀ i m zs H, W i m zs H → ((Itl K a).stop i H ∧ F H) ∨ ((Itl K a).go i H ∧ ∀ x H', (Itl K a).yld i H x H' → tYes (inn fr σ (some x)) H' fun c H2 => if c = true then te (inn fr σ (some x)) H2 fun v H3 =>
          H3 D = some (.lst zs) ∧ zs.length < sizeLine ∧ ∃ m', m' < m ∧ W (i + 1) m' (zs ++ [v]) (upd H3 D (.lst (zs ++ [v]))) else ∃ m', m' < m ∧ W (i + 1) m' zs H2) := by
  refine ⟨fun i m zs H => m = xs.length - i ∧ i ≤ xs.length ∧ zs.length = i ∧ SameD D H1 H ∧ H D = some (.lst zs) ∧ ∀ j v, zs[j]? = some v → R j v H, ⟨_, rfl, Nat.zero_le _, rfl, SameD.upd (SameD.refl D H1), upd_same, fun j v h => by simp at h⟩, ?_⟩
  rintro i m zs H ⟨rfl, hi, rfl, sD, hDz, hR⟩
  have s1 := sD.seq ha h1
  by_cases hlt : zs.length < xs.length
  · refine .inr ⟨⟨xs, xs[zs.length], s1, List.getElem?_eq_getElem hlt⟩, ?_⟩
    rintro x H' ⟨rfl, e1⟩
    have ex := e1 _ s1
    show te (inn fr σ (some x)) _ _
    refine he zs.length x _ _ ex sD (by rw [hDz]; simp) fun v H3 s3 r3 => ⟨s3 _ _ hDz, by omega, _, ?_, rfl, hlt, by rw [List.length_append]; rfl, SameD.upd (sD.trans s3.toD), upd_same, fun j u hj => ?_⟩
    · omega
    · refine hst j u H3 _ (SameD.upd (SameD.refl D H3)) ?_
      rcases Nat.lt_or_ge j zs.length with hl | hl
      · rw [List.getElem?_append_left hl] at hj
        exact hst j u _ _ s3.toD (hR j u hj)
      · rw [List.getElem?_append_right hl] at hj
        have e0 : j - zs.length = 0 := by
          rcases Nat.eq_zero_or_pos (j - zs.length) with z | z
          · exact z
          · rw [List.getElem?_eq_none (by simp; omega)] at hj
            cases hj
        rw [e0] at hj
        cases hj
        have : j = zs.length := by omega
        subst this
        exact r3
  · exact .inl ⟨⟨xs, s1, by omega⟩, hq H zs sD hDz (by omega) hR⟩
theorem comp_genT (R : Nat → V → Hp → Prop) (ha : a ≠ D) (h1 : SqL K H1 a xs) (hz : xs.length < sizeLine) (hst : ∀ i v H H', SameD D H H' → R i v H → R i v H')
    (he : ∀ (i : Nat) x H' (Q : VK), xs[i]? = some x → SameD D H1 H' → H' D ≠ none → (∀ v H3, Same H' H3 → R i v H3 → Q v H3) → te (innT fr σ [some x]) H' Q)
    (hq : ∀ H3 vs, SameD D H1 H3 → H3 D = some (.lst vs) → vs.length = xs.length → (∀ i v, vs[i]? = some v → R i v H3) → F H3) :
    ∃ W : Nat → Nat → List V → Hp → Prop, (∃ m, W 0 m [] (upd H1 D (.lst []))) ∧
      ∀ i m zs H, W i m zs H → ((Itl K a).stop i H ∧ F H) ∨ ((Itl K a).go i H ∧ ∀ x H', (Itl K a).yld i H x H' → ∀ vs : List (Option V), vs.length = 1 → gName 0 x (innT fr σ vs) H' fun σ8 H8 =>
        (∃ vs' : List (Option V), vs'.length = 1 ∧ σ8 = innT fr σ vs') ∧ tYes σ8 H8 fun c H2 => if c = true then te σ8 H2 fun v H3 =>
          H3 D = some (.lst zs) ∧ zs.length < sizeLine ∧ ∃ m', m' < m ∧ W (i + 1) m' (zs ++ [v]) (upd H3 D (.lst (zs ++ [v]))) else ∃ m', m' < m ∧ W (i + 1) m' zs H2) := by
  refine ⟨fun i m zs H => m = xs.length - i ∧ i ≤ xs.length ∧ zs.length = i ∧ SameD D H1 H ∧ H D = some (.lst zs) ∧ ∀ j v, zs[j]? = some v → R j v H, ⟨_, rfl, Nat.zero_le _, rfl, SameD.upd (SameD.refl D H1), upd_same, fun j v h => by simp at h⟩, ?_⟩
  rintro i m zs H ⟨rfl, hi, rfl, sD, hDz, hR⟩
  have s1 := sD.seq ha h1
  by_cases hlt : zs.length < xs.length
  · refine .inr ⟨⟨xs, xs[zs.length], s1, List.getElem?_eq_getElem hlt⟩, ?_⟩
    rintro x H' ⟨rfl, e1⟩ vs hvs
    have ex := e1 _ s1
    obtain ⟨p, rfl⟩ : ∃ p, vs = [p] := by
      match vs, hvs with
      | [p], _ => exact ⟨p, rfl⟩
    refine ⟨⟨[some x], rfl, rfl⟩, ?_⟩
    show te (innT fr σ [some x]) _ _
    refine he zs.length x _ _ ex sD (by rw [hDz]; simp) fun v H3 s3 r3 => ⟨s3 _ _ hDz, by omega, _, ?_, rfl, hlt, by rw [List.length_append]; rfl, SameD.upd (sD.trans s3.toD), upd_same, fun j u hj => ?_⟩
    · omega
    · refine hst j u H3 _ (SameD.upd (SameD.refl D H3)) ?_
      rcases Nat.lt_or_ge j zs.length with hl | hl
      · rw [List.getElem?_append_left hl] at hj
        exact hst j u _ _ s3.toD (hR j u hj)
      · rw [List.getElem?_append_right hl] at hj
        have e0 : j - zs.length = 0 := by
          rcases Nat.eq_zero_or_pos (j - zs.length) with z | z
          · exact z
          · rw [List.getElem?_eq_none (by simp; omega)] at hj
            cases hj
        rw [e0] at hj
        cases hj
        have : j = zs.length := by omega
        subst this
        exact r3
  · exact .inl ⟨⟨xs, s1, by omega⟩, hq H zs sD hDz (by omega) hR⟩
theorem comp_rngT {n : Nat} {lo : Int} (R : Nat → V → Hp → Prop) (hz : n < sizeLine) (hst : ∀ i v H H', SameD D H H' → R i v H → R i v H')
    (he : ∀ (i : Nat) H' (Q : VK), i < n → SameD D H1 H' → H' D ≠ none → (∀ v H3, Same H' H3 → R i v H3 → Q v H3) → te (innT fr σ [some (.int (lo + i))]) H' Q)
    (hq : ∀ H3 vs, SameD D H1 H3 → H3 D = some (.lst vs) → vs.length = n → (∀ i v, vs[i]? = some v → R i v H3) → F H3) :
    ∃ W : Nat → Nat → List V → Hp → Prop, (∃ m, W 0 m [] (upd H1 D (.lst []))) ∧
      ∀ i m zs H, W i m zs H → ((Itr lo n).stop i H ∧ F H) ∨ ((Itr lo n).go i H ∧ ∀ x H', (Itr lo n).yld i H x H' → ∀ vs : List (Option V), vs.length = 1 → gName 0 x (innT fr σ vs) H' fun σ8 H8 =>
        (∃ vs' : List (Option V), vs'.length = 1 ∧ σ8 = innT fr σ vs') ∧ tYes σ8 H8 fun c H2 => if c = true then te σ8 H2 fun v H3 =>
          H3 D = some (.lst zs) ∧ zs.length < sizeLine ∧ ∃ m', m' < m ∧ W (i + 1) m' (zs ++ [v]) (upd H3 D (.lst (zs ++ [v]))) else ∃ m', m' < m ∧ W (i + 1) m' zs H2) := by
  refine ⟨fun i m zs H => m = n - i ∧ i ≤ n ∧ zs.length = i ∧ SameD D H1 H ∧ H D = some (.lst zs) ∧ ∀ j v, zs[j]? = some v → R j v H, ⟨_, rfl, Nat.zero_le _, rfl, SameD.upd (SameD.refl D H1), upd_same, fun j v h => by simp at h⟩, ?_⟩
  rintro i m zs H ⟨rfl, hi, rfl, sD, hDz, hR⟩
  by_cases hlt : zs.length < n
  · refine .inr ⟨hlt, ?_⟩
    rintro x H' ⟨rfl, rfl⟩ vs hvs
    obtain ⟨p, rfl⟩ : ∃ p, vs = [p] := by
      match vs, hvs with
      | [p], _ => exact ⟨p, rfl⟩
    refine ⟨⟨[some (.int (lo + zs.length))], rfl, rfl⟩, ?_⟩
    show te (innT fr σ [some (.int (lo + zs.length))]) _ _
    refine he zs.length _ _ hlt sD (by rw [hDz]; simp) fun v H3 s3 r3 => ⟨s3 _ _ hDz, by omega, _, ?_, rfl, hlt, by rw [List.length_append]; rfl, SameD.upd (sD.trans s3.toD), upd_same, fun j u hj => ?_⟩
    · omega
    · refine hst j u H3 _ (SameD.upd (SameD.refl D H3)) ?_
      rcases Nat.lt_or_ge j zs.length with hl | hl
      · rw [List.getElem?_append_left hl] at hj
        exact hst j u _ _ s3.toD (hR j u hj)
      · rw [List.getElem?_append_right hl] at hj
        have e0 : j - zs.length = 0 := by
          rcases Nat.eq_zero_or_pos (j - zs.length) with z | z
          · exact z
          · rw [List.getElem?_eq_none (by simp; omega)] at hj
            cases hj
        rw [e0] at hj
        cases hj
        have : j = zs.length := by omega
        subst this
        exact r3
  · exact .inl ⟨by show n ≤ _; omega, hq H zs sD hDz (by omega) hR⟩
theorem comp_rng {n : Nat} {lo : Int} (R : Nat → V → Hp → Prop) (hz : n < sizeLine) (hst : ∀ i v H H', SameD D H H' → R i v H → R i v H')
    (he : ∀ (i : Nat) H' (Q : VK), i < n → SameD D H1 H' → H' D ≠ none → (∀ v H3, Same H' H3 → R i v H3 → Q v H3) → te (inn fr σ (some (.int (lo + i)))) H' Q)
    (hq : ∀ H3 vs, SameD D H1 H3 → H3 D = some (.lst vs) → vs.length = n → (∀ i v, vs[i]? = some v → R i v H3) → F H3) :
    ∃ W : Nat → Nat → List V → Hp → Prop, (∃ m, W 0 m [] (upd H1 D (.lst []))) ∧
      ∀ i m zs H, W i m zs H → ((Itr lo n).stop i H ∧ F H) ∨ ((Itr lo n).go i H ∧ ∀ x H', (Itr lo n).yld i H x H' → tYes (inn fr σ (some x)) H' fun c H2 => if c = true then te (inn fr σ (some x)) H2 fun v H3 =>
          H3 D = some (.lst zs) ∧ zs.length < sizeLine ∧ ∃ m', m' < m ∧ W (i + 1) m' (zs ++ [v]) (upd H3 D (.lst (zs ++ [v]))) else ∃ m', m' < m ∧ W (i + 1) m' zs H2) := by
  refine ⟨fun i m zs H => m = n - i ∧ i ≤ n ∧ zs.length = i ∧ SameD D H1 H ∧ H D = some (.lst zs) ∧ ∀ j v, zs[j]? = some v → R j v H, ⟨_, rfl, Nat.zero_le _, rfl, SameD.upd (SameD.refl D H1), upd_same, fun j v h => by simp at h⟩, ?_⟩
  rintro i m zs H ⟨rfl, hi, rfl, sD, hDz, hR⟩
  by_cases hlt : zs.length < n
  · refine .inr ⟨hlt, ?_⟩
    rintro x H' ⟨rfl, rfl⟩
    show te (inn fr σ (some (.int (lo + zs.length)))) _ _
    refine he zs.length _ _ hlt sD (by rw [hDz]; simp) fun v H3 s3 r3 => ⟨s3 _ _ hDz, by omega, _, ?_, rfl, hlt, by rw [List.length_append]; rfl, SameD.upd (sD.trans s3.toD), upd_same, fun j u hj => ?_⟩
    · omega
    · refine hst j u H3 _ (SameD.upd (SameD.refl D H3)) ?_
      rcases Nat.lt_or_ge j zs.length with hl | hl
      · rw [List.getElem?_append_left hl] at hj
        exact hst j u _ _ s3.toD (hR j u hj)
      · rw [List.getElem?_append_right hl] at hj
        have e0 : j - zs.length = 0 := by
          rcases Nat.eq_zero_or_pos (j - zs.length) with z | z
          · exact z
          · rw [List.getElem?_eq_none (by simp; omega)] at hj
            cases hj
        rw [e0] at hj
        cases hj
        have : j = zs.length := by omega
        subst this
        exact r3
  · exact .inl ⟨by show n ≤ _; omega, hq H zs sD hDz (by omega) hR⟩
end
theorem for_zip {K : PySem.W.Frag} {a b : Addr} {xs ys : List V} {g : TG} {tb : TS} {D : Ends} {σ : St} {H : Hp} (Pv : Nat → St → Hp → Prop) (h0 : Pv 0 σ H) (hl : ∀ i σ H, i ≤ xs.length → Pv i σ H → SqL K H a xs ∧ SqL K H b ys) (he : xs.length = ys.length)
    (hs : ∀ i x y σ H T, xs[i]? = some x → ys[i]? = some y → Pv i σ H → H T = none → g (.ref T) σ (upd H T (.tup [x, y])) fun σ2 H2 => tb { D with nx := Pv (i + 1), ct := Pv (i + 1), bk := D.nx } σ2 H2) (hd : ∀ σ H, Pv xs.length σ H → D.nx σ H) :
    ∃ W : Nat → Nat → St → Hp → Prop, (∃ m, W 0 m σ H) ∧ ∀ i m σ H, W i m σ H →
      ((Itz K a b).stop i H ∧ D.nx σ H) ∨ ((Itz K a b).go i H ∧ ∃ N : St → Hp → Prop, (∀ σ' H', N σ' H' → ∃ m', m' < m ∧ W (i + 1) m' σ' H') ∧ ∀ x H', (Itz K a b).yld i H x H' → g x σ H' fun σ2 H2 => tb { D with nx := N, ct := N, bk := D.nx } σ2 H2) := by
  refine ⟨fun i m σ H => m = xs.length - i ∧ i ≤ xs.length ∧ Pv i σ H, ⟨xs.length, by simp, Nat.zero_le _, h0⟩, ?_⟩
  rintro i m σ H ⟨rfl, hi, p⟩
  obtain ⟨q1, q2⟩ := hl i σ H hi p
  by_cases hlt : i < xs.length
  · refine .inr ⟨⟨xs, ys, xs[i], ys[i], q1, q2, by simp [hlt], by simp [he ▸ hlt]⟩, Pv (i + 1), fun σ' H' p' => ⟨xs.length - (i + 1), by omega, rfl, hlt, p'⟩, fun v H' y => ?_⟩
    obtain ⟨T, x, y, hT, rfl, rfl, y1, y2⟩ := y
    exact hs i x y σ H T (y1 xs q1) (y2 ys q2) p hT
  · have e : i = xs.length := by omega
    subst e
    exact .inl ⟨⟨xs, ys, q1, q2, .inl (Nat.le_refl _)⟩, hd σ H p⟩
theorem pe_fldK {X : Cx} {K' : PySem.W.Frag} {e : Expr} {f : Str} {pos : Pos} {ta : TE} (hK : X.K = K') (he : PE X e ta) (hb : attributeBase e f X.env (eval e X.env) = eval e X.env) : PE X (.Attribute e f pos) (tFld K' ta f) := by
  subst hK
  exact pe_fld he hb
theorem pg_oneT {X : Cx} {pins : List (Addr × Obj)} {scope : Scope} {cl : List (Str × Addr)} {C : Addr} {N' : List Str} {fp : List Addr} {s : Shared} {H : Hp} {x : Str} {p : Pos} (nd : N'.Nodup) (h0 : N'[0]? = some x)
    (l0 : scope.names.lookup x = some .local) : PG (cxComp X pins scope cl C N' fp s H) (.Name x p) (gName 0) := by
  have e0 : (cxComp X pins scope cl C N' fp s H).env.scope.names.lookup x = some .local := lookup_relabel_local l0
  exact pg_name (i := 0) nd h0 (.inl e0) (.inr e0)
theorem lookup_has {x : Str} : ∀ {cl : List (Str × Addr)}, x ∈ cl.map Prod.fst → ∃ c : Addr, cl.lookup x = some c
  | [], h => by cases h
  | (y, a) :: r, h => by
    by_cases e : x = y
    · subst e
      exact ⟨a, by simp [List.lookup]⟩
    · have h' : x ∈ r.map Prod.fst := by
        rcases List.mem_cons.mp h with h | h
        · exact absurd h e
        · exact h
      obtain ⟨c, hc⟩ := lookup_has h'
      refine ⟨c, ?_⟩
      rw [List.lookup_cons, show (x == y) = false from beq_eq_false_iff_ne.mpr e]
      exact hc
theorem look_swap {x y : Str} {a b : Addr} (hne : x ≠ y) (u : Str) (c : Addr) (h : [(x, a), (y, b)].lookup u = some c) : [(y, b), (x, a)].lookup u = some c := by
  by_cases e1 : u = x
  · subst e1
    have e2 : (u == y) = false := beq_eq_false_iff_ne.mpr hne
    simp [List.lookup_cons] at h
    simp [List.lookup_cons, e2, h]
  · have e1' : (u == x) = false := beq_eq_false_iff_ne.mpr e1
    simp only [List.lookup_cons, e1'] at h
    by_cases e2 : u = y
    · subst e2
      simp [List.lookup_cons] at h
      simp [List.lookup_cons, h]
    · have e2' : (u == y) = false := beq_eq_false_iff_ne.mpr e2
      simp [List.lookup_cons, e2'] at h
theorem has_any {sc : Scope} {env : Env} {l : List (Str × NameKind)} {ks : List Str} {cl : List (Str × Addr)} (hn : (relabel sc env).names = l) (hk : cl.map Prod.fst = ks) (hl : ∀ p ∈ l, (p.2 = .cell ∨ p.2 = .free) → p.1 ∈ ks) :
    ∀ u, ((relabel sc env).names.lookup u = some .cell ∨ (relabel sc env).names.lookup u = some .free) → ∃ c : Addr, cl.lookup u = some c := fun u h => by
  rw [hn] at h
  refine lookup_has ?_
  rw [hk]
  rcases h with h | h
  · exact hl _ (PySem.mem_of_lookup h) (.inl rfl)
  · exact hl _ (PySem.mem_of_lookup h) (.inr rfl)
theorem ins_eq (l : List Value) (k : Nat) (y : Value) : (l.toArray.extract 0 k).push y ++ l.toArray.extract k = (l.take k ++ y :: l.drop k).toArray := by
  apply Array.toList_inj.mp
  simp
  exact List.take_of_length_le (by simp)
def rInsert : V → List V → Hp → VK → Prop := fun x vs H Q => ∃ l xs k y, x = .ref l ∧ vs = [.int ((k : Nat) : Int), y] ∧ H l = some (.lst xs) ∧ k ≤ xs.length ∧ xs.length < 5000 ∧ Q .non (upd H l (.lst (xs.take k ++ y :: xs.drop k)))
theorem fits5000 {k : Nat} (h : k ≤ 5000) : Builtin.List.listFitsIndex ((k : Nat) : Int) = true := by
  unfold Builtin.List.listFitsIndex
  simp
  omega
theorem mt_insert {X : Cx} : MtM X "list.insert" rInsert := by
  intro pins s σ H x vs v us Q I rx rv h
  obtain ⟨l, xs, k, y, rfl, rfl, hH, hk, hz, q⟩ := h
  cases rx
  obtain ⟨u1, u2, rfl, ⟨t, rfl⟩, r2⟩ := rv.two
  obtain ⟨z, its, n, r, hl, e⟩ := I.lstM hH
  have hk5 : k ≤ 5000 := by omega
  have ff := fits5000 hk5
  have hsz : its.toArray.size ≤ sizeLine := by rw [List.size_toArray, ← hl]; exact small _ (by omega)
  generalize hxk : ((k : Nat) : Int) = x at ff ⊢
  refine call_meets F.slot_list_insert ⟨_, e, rfl⟩ F.entry_list_insert (F.args_list_insert_3 _ _ _) (PySem.AutoSeq1.list_insert_list_int_val_1 l its.toArray n x t u2 (by simp [ff]) hsz) ⟨e, ?_⟩
  refine ⟨.non, _, I.lset (its' := its.take k ++ u2 :: its.drop k) hH e ?_ ((r.take k).append (.cons r2 (r.drop k))) ?_, rfl, q⟩
  · subst hxk
    show (its.toArray.extract 0 (if ((k : Nat) : Int) < 0 then (((k : Nat) : Int) + (its.toArray.size : Int)).toNat else min ((k : Nat) : Int).toNat its.toArray.size)).push u2 ++ its.toArray.extract (if ((k : Nat) : Int) < 0 then (((k : Nat) : Int) + (its.toArray.size : Int)).toNat else min ((k : Nat) : Int).toNat its.toArray.size) = _
    rw [if_neg (by omega), List.size_toArray, Int.toNat_natCast, Nat.min_eq_left (by omega)]
    exact ins_eq its k u2
  · rw [List.length_append, List.length_cons, List.length_take, List.length_drop]
    exact small _ (by omega)
end L2
set_option linter.all false
namespace K45
inductive Kd (L : Type) where
  | lab (l : L)
  | jmp (l : L)
  | oth
section
variable {L : Type}
def nxt (ks : List (Kd L)) (sp : L → Nat) (i : Nat) : Option Nat :=
  match ks[i]? with
  | some (.lab _) => some (i + 1)
  | some (.jmp l) => some (sp l)
  | _ => none
def it (ks : List (Kd L)) (sp : L → Nat) : Nat → Nat → Option Nat
  | 0, i => some i
  | t + 1, i => (nxt ks sp i).bind (it ks sp t)
variable {ks : List (Kd L)} {sp : L → Nat}
theorem it_add : ∀ {a b i : Nat}, it ks sp (a + b) i = (it ks sp a i).bind (it ks sp b)
  | 0, b, i => by rw [Nat.zero_add]; rfl
  | a + 1, b, i => by
    rw [Nat.add_right_comm]
    show (nxt ks sp i).bind (it ks sp (a + b)) = ((nxt ks sp i).bind (it ks sp a)).bind (it ks sp b)
    cases nxt ks sp i with
    | none => rfl
    | some j => exact it_add
theorem it_trans {a b i j k : Nat} (h1 : it ks sp a i = some j) (h2 : it ks sp b j = some k) : it ks sp (a + b) i = some k := by
  rw [it_add, h1]; exact h2
theorem it_one {i j : Nat} (h : nxt ks sp i = some j) : it ks sp 1 i = some j := by
  show (nxt ks sp i).bind (it ks sp 0) = _
  rw [h]; rfl
theorem nxt_lt {i j : Nat} (h : nxt ks sp i = some j) : i < ks.length := by
  unfold nxt at h
  by_cases hl : i < ks.length
  · exact hl
  · rw [List.getElem?_eq_none (by omega)] at h
    cases h
def Ends (ks : List (Kd L)) (sp : L → Nat) (i j : Nat) : Prop := ∃ t, it ks sp t i = some j ∧ nxt ks sp j = none
theorem it_stop {t i : Nat} (h : nxt ks sp i = none) (ht : 0 < t) : it ks sp t i = none := by
  cases t with
  | zero => omega
  | succ t => show (nxt ks sp i).bind _ = none; rw [h]; rfl
theorem time_unique {a b i j k : Nat} (h1 : it ks sp a i = some j) (e1 : nxt ks sp j = none) (h2 : it ks sp b i = some k) (e2 : nxt ks sp k = none) : a = b := by
  rcases Nat.lt_trichotomy a b with h | h | h
  · have e : b = a + (b - a) := by omega
    rw [e, it_add, h1] at h2
    have z := it_stop (t := b - a) e1 (by omega)
    have h2' : it ks sp (b - a) j = some k := h2
    rw [z] at h2'
    cases h2'
  · exact h
  · have e : a = b + (a - b) := by omega
    rw [e, it_add, h2] at h1
    have z := it_stop (t := a - b) e2 (by omega)
    have h1' : it ks sp (a - b) k = some j := h1
    rw [z] at h1'
    cases h1'
theorem Ends.unique {i j k : Nat} (h1 : Ends ks sp i j) (h2 : Ends ks sp i k) : j = k := by
  obtain ⟨a, a1, a2⟩ := h1
  obtain ⟨b, b1, b2⟩ := h2
  have e := time_unique a1 a2 b1 b2
  subst e
  rw [a1] at b1
  exact Option.some.inj b1
theorem Ends.step {a i j k : Nat} (h : it ks sp a i = some j) : Ends ks sp i k ↔ Ends ks sp j k := by
  constructor
  · rintro ⟨t, t1, t2⟩
    by_cases hle : a ≤ t
    · have e : t = a + (t - a) := by omega
      rw [e, it_add, h] at t1
      exact ⟨t - a, t1, t2⟩
    · have e : a = t + (a - t) := by omega
      rw [e, it_add, t1] at h
      have z := it_stop (t := a - t) t2 (by omega)
      have h' : it ks sp (a - t) k = some j := h
      rw [z] at h'
      cases h'
  · rintro ⟨t, t1, t2⟩
    exact ⟨a + t, it_trans h t1, t2⟩
theorem round_never {t i k : Nat} (ht : 0 < t) (h : it ks sp t i = some i) : ¬ Ends ks sp i k := by
  rintro ⟨a, a1, a2⟩
  have z := it_trans h a1
  have := time_unique a1 a2 z a2
  omega
theorem pigeon : ∀ (n : Nat) (l : List Nat), l.Nodup → (∀ x ∈ l, x < n) → l.length ≤ n
  | 0, l, _, h => by
    cases l with
    | nil => exact Nat.le_refl _
    | cons a r => exact absurd (h a (List.mem_cons_self ..)) (by omega)
  | n + 1, l, nd, h => by
    by_cases hm : n ∈ l
    · have z := pigeon n (l.erase n) (nd.erase n) fun x hx => by
        have hx' := (List.Nodup.mem_erase_iff nd).mp hx
        have := h x hx'.2
        have := hx'.1
        omega
      rw [List.length_erase_of_mem hm] at z
      omega
    · have z := pigeon n l nd fun x hx => by
        have := h x hx
        have : x ≠ n := fun e => hm (e ▸ hx)
        omega
      omega
def path (ks : List (Kd L)) (sp : L → Nat) : Nat → Nat → List Nat
  | 0, _ => []
  | t + 1, i => i :: match nxt ks sp i with
    | some j => path ks sp t j
    | none => []
theorem path_spec : ∀ {t i j : Nat}, it ks sp t i = some j → nxt ks sp j = none → (path ks sp t i).length = t ∧ (path ks sp t i).Nodup ∧ (∀ x ∈ path ks sp t i, x < ks.length ∧ ∃ a, a ≤ t ∧ 0 < a ∧ it ks sp a x = some j)
  | 0, i, j, h, e => ⟨rfl, List.nodup_nil, fun x hx => by cases hx⟩
  | t + 1, i, j, h, e => by
    have h' : (nxt ks sp i).bind (it ks sp t) = some j := h
    cases hn : nxt ks sp i with
    | none => rw [hn] at h'; cases h'
    | some k =>
      rw [hn] at h'
      have hk : it ks sp t k = some j := h'
      obtain ⟨p1, p2, p3⟩ := path_spec hk e
      have ep : path ks sp (t + 1) i = i :: path ks sp t k := by
        show (i :: match nxt ks sp i with | some j => path ks sp t j | none => []) = _
        rw [hn]
      rw [ep]
      refine ⟨by rw [List.length_cons, p1], List.nodup_cons.mpr ⟨fun hm => ?_, p2⟩, fun x hx => ?_⟩
      · obtain ⟨_, a, a1, _, a2⟩ := p3 i hm
        have := time_unique h e a2 e
        omega
      · rcases List.mem_cons.mp hx with rfl | hx
        · exact ⟨nxt_lt hn, t + 1, Nat.le_refl _, Nat.succ_pos _, h⟩
        · obtain ⟨x1, a, a1, a0, a2⟩ := p3 x hx
          exact ⟨x1, a, Nat.le_succ_of_le a1, a0, a2⟩
theorem ends_soon {t i j : Nat} (h : it ks sp t i = some j) (e : nxt ks sp j = none) : t ≤ ks.length := by
  obtain ⟨p1, p2, p3⟩ := path_spec h e
  have := pigeon ks.length _ p2 fun x hx => (p3 x hx).1
  omega
def Told {α : Type} (ks : List (Kd L)) (sp : L → Nat) (f : Nat → α) (d : α) (i : Nat) (v : α) : Prop := (∃ j, Ends ks sp i j ∧ v = f j) ∨ ((∀ j, ¬ Ends ks sp i j) ∧ v = d)
theorem Told.unique {α : Type} {f : Nat → α} {d : α} {i : Nat} {v u : α} (h1 : Told ks sp f d i v) (h2 : Told ks sp f d i u) : v = u := by
  rcases h1 with ⟨j, a, rfl⟩ | ⟨a, rfl⟩
  · rcases h2 with ⟨k, b, rfl⟩ | ⟨b, rfl⟩
    · rw [a.unique b]
    · exact absurd a (b j)
  · rcases h2 with ⟨k, b, rfl⟩ | ⟨b, rfl⟩
    · exact absurd b (a k)
    · rfl
theorem told_long {α : Type} {f : Nat → α} {d : α} {i j t : Nat} (h : it ks sp t i = some j) (ht : ks.length < t) : Told ks sp f d i d := by
  refine .inr ⟨fun k hk => ?_, rfl⟩
  obtain ⟨a, a1, a2⟩ := hk
  have ha := ends_soon a1 a2
  have e : t = a + (t - a) := by omega
  rw [e, it_add, a1] at h
  have z := it_stop (t := t - a) a2 (by omega)
  have h' : it ks sp (t - a) k = some j := h
  rw [z] at h'
  cases h'
theorem told_end {α : Type} {f : Nat → α} {d : α} {i j t : Nat} (h : it ks sp t i = some j) (e : nxt ks sp j = none) : Told ks sp f d i (f j) := .inl ⟨j, ⟨t, h, e⟩, rfl⟩
theorem told_round {α : Type} {f : Nat → α} {d : α} {i j t u : Nat} (h : it ks sp t i = some j) (hu : 0 < u) (h2 : it ks sp u j = some j) : Told ks sp f d i d :=
  .inr ⟨fun k hk => round_never hu h2 ((Ends.step h).mp hk), rfl⟩
theorem seen_few {ss : List L} (nd : ss.Nodup) (h : ∀ s ∈ ss, ks[sp s]? = some (.lab s)) : ss.length ≤ ks.length := by
  have z := pigeon ks.length (ss.map sp) ?_ ?_
  · rwa [List.length_map] at z
  · induction ss with
    | nil => exact List.nodup_nil
    | cons a r ih =>
      obtain ⟨h1, h2⟩ := List.nodup_cons.mp nd
      rw [List.map_cons]
      refine List.nodup_cons.mpr ⟨fun hm => ?_, ih h2 fun s hs => h s (List.mem_cons_of_mem _ hs)⟩
      obtain ⟨b, hb, e⟩ := List.mem_map.mp hm
      have e1 := h a (List.mem_cons_self ..)
      have e2 := h b (List.mem_cons_of_mem _ hb)
      rw [e, e1] at e2
      injection e2 with e3
      injection e3 with e4
      exact h1 (e4 ▸ hb)
  · intro x hx
    obtain ⟨s, hs, rfl⟩ := List.mem_map.mp hx
    exact (List.getElem?_eq_some_iff.mp (h s hs)).1
end
end K45
set_option maxRecDepth 100000
namespace K45
open PySem L2
def top (i : Nat) : Stmt := PySem.Challenge.pw_exitweave_k45_pieces_by_hand.main.body.getD i (.Pass ⟨0, 0, 0, 0⟩)
structure Cs where
  label : Addr
  move : Addr
  tell : Addr
  jump : Addr
  summon : Addr
  handon : Addr
  ret : Addr
  piece : Addr
  code : Addr
abbrev ArmT : Type := Option (Str × List Str)
inductive Stp where
  | label (l : Str)
  | jump (l : Str)
  | ret (way : Int) (ats : List Key)
  | tell
  | move (n : Int)
  | summon (arms : List ArmT)
inductive ArmAt (H : Hp) : V → ArmT → Prop where
  | non : ArmAt H .non none
  | arm {t g : Addr} {l : Str} {gs : List Str} (h : H t = some (.tup [.str l, .ref g])) (hg : H g = some (.lst (gs.map V.str))) : ArmAt H (.ref t) (some (l, gs))
inductive ArmsAt (H : Hp) : List V → List ArmT → Prop where
  | nil : ArmsAt H [] []
  | cons {v : V} {vs : List V} {a : ArmT} {as : List ArmT} (h : ArmAt H v a) (t : ArmsAt H vs as) : ArmsAt H (v :: vs) (a :: as)
def markAt (H : Hp) (m : Addr) (k : Int) : Prop := H m = some (.tup [.str "z", .int k])
inductive StepAt (c : Cs) (H : Hp) : V → Int → Stp → Prop where
  | label {a dx m : Addr} {k : Int} {l : Str} (h : H a = some (.ins c.label dx [("mark", .ref m), ("label", .str l)])) (hm : markAt H m k) : StepAt c H (.ref a) k (.label l)
  | jump {a dx m : Addr} {k : Int} {l : Str} (h : H a = some (.ins c.jump dx [("mark", .ref m), ("label", .str l)])) (hm : markAt H m k) : StepAt c H (.ref a) k (.jump l)
  | ret {a dx m g : Addr} {k way : Int} {ats : List Key} (h : H a = some (.ins c.ret dx [("mark", .ref m), ("way", .int way), ("atoms", .ref g)])) (hm : markAt H m k) (hg : H g = some (.lst (ats.map kV))) : StepAt c H (.ref a) k (.ret way ats)
  | tell {a dx m : Addr} {k : Int} (h : H a = some (.ins c.tell dx [("mark", .ref m), ("atom", .str "a")])) (hm : markAt H m k) : StepAt c H (.ref a) k .tell
  | move {a dx m : Addr} {k n : Int} (h : H a = some (.ins c.move dx [("mark", .ref m), ("goal", .str "a"), ("atom", .int n)])) (hm : markAt H m k) : StepAt c H (.ref a) k (.move n)
  | summon {a dx m g r : Addr} {k : Int} {vs : List V} {arms : List ArmT} (h : H a = some (.ins c.summon dx [("mark", .ref m), ("callee", .str "z"), ("atoms", .ref g), ("arms", .ref r)])) (hm : markAt H m k) (hg : H g = some (.lst [])) (hr : H r = some (.lst vs)) (ha : ArmsAt H vs arms) : StepAt c H (.ref a) k (.summon arms)
inductive StepsAt (c : Cs) (H : Hp) : List V → List (Int × Stp) → Prop where
  | nil : StepsAt c H [] []
  | cons {v : V} {vs : List V} {k : Int} {s : Stp} {ss : List (Int × Stp)} (h : StepAt c H v k s) (t : StepsAt c H vs ss) : StepsAt c H (v :: vs) ((k, s) :: ss)
section
variable {c : Cs} {H H' : Hp}
theorem ArmAt.same (s : Same H H') {v : V} {a : ArmT} (h : ArmAt H v a) : ArmAt H' v a := by
  cases h with
  | non => exact .non
  | arm h hg => exact .arm (s _ _ h) (s _ _ hg)
theorem ArmsAt.same (s : Same H H') : ∀ {vs : List V} {as : List ArmT}, ArmsAt H vs as → ArmsAt H' vs as
  | _, _, .nil => .nil
  | _, _, .cons h t => .cons (h.same s) (t.same s)
theorem ArmsAt.len : ∀ {vs : List V} {as : List ArmT}, ArmsAt H vs as → vs.length = as.length
  | _, _, .nil => rfl
  | _, _, .cons _ t => by rw [List.length_cons, List.length_cons, t.len]
theorem ArmsAt.get : ∀ {vs : List V} {as : List ArmT} {i : Nat} {v : V}, ArmsAt H vs as → vs[i]? = some v → ∃ a, as[i]? = some a ∧ ArmAt H v a
  | _, _, 0, _, .cons h _, e => by cases e; exact ⟨_, rfl, h⟩
  | _, _, i + 1, _, .cons _ t, e => t.get (i := i) e
theorem ArmsAt.of : ∀ {vs : List V} {as : List ArmT}, vs.length = as.length → (∀ (i : Nat) (v : V) (a : ArmT), vs[i]? = some v → as[i]? = some a → ArmAt H v a) → ArmsAt H vs as
  | [], [], _, _ => .nil
  | v :: vs, a :: as, e, h => .cons (h 0 v a rfl rfl) (ArmsAt.of (by simpa using e) fun i v' a' h1 h2 => h (i + 1) v' a' h1 h2)
theorem StepAt.same (s : Same H H') {v : V} {k : Int} {st : Stp} (h : StepAt c H v k st) : StepAt c H' v k st := by
  cases h with
  | label h hm => exact .label (s _ _ h) (s _ _ hm)
  | jump h hm => exact .jump (s _ _ h) (s _ _ hm)
  | ret h hm hg => exact .ret (s _ _ h) (s _ _ hm) (s _ _ hg)
  | tell h hm => exact .tell (s _ _ h) (s _ _ hm)
  | move h hm => exact .move (s _ _ h) (s _ _ hm)
  | summon h hm hg hr ha => exact .summon (s _ _ h) (s _ _ hm) (s _ _ hg) (s _ _ hr) (ha.same s)
theorem StepsAt.same (s : Same H H') : ∀ {vs : List V} {ss : List (Int × Stp)}, StepsAt c H vs ss → StepsAt c H' vs ss
  | _, _, .nil => .nil
  | _, _, .cons h t => .cons (h.same s) (t.same s)
theorem StepsAt.len : ∀ {vs : List V} {ss : List (Int × Stp)}, StepsAt c H vs ss → vs.length = ss.length
  | _, _, .nil => rfl
  | _, _, .cons _ t => by rw [List.length_cons, List.length_cons, t.len]
theorem StepsAt.get : ∀ {vs : List V} {ss : List (Int × Stp)} {i : Nat} {v : V}, StepsAt c H vs ss → vs[i]? = some v → ∃ k s, ss[i]? = some (k, s) ∧ StepAt c H v k s
  | _, _, 0, _, .cons h _, e => by cases e; exact ⟨_, _, rfl, h⟩
  | _, _, i + 1, _, .cons _ t, e => t.get (i := i) e
end
abbrev Sts : Type := List (Int × Stp)
def labAt (ss : Sts) (i : Nat) : Option Str := match ss[i]? with
  | some (_, .label l) => some l
  | _ => none
def spotN (ss : Sts) (l : Str) : Nat → Option Nat
  | 0 => none
  | i + 1 => if labAt ss i = some l then some i else spotN ss l i
def spotO (ss : Sts) (l : Str) : Option Nat := spotN ss l ss.length
def spot (ss : Sts) (l : Str) : Nat := (spotO ss l).getD 0
def kd : Int × Stp → Kd Str
  | (_, .label l) => .lab l
  | (_, .jump l) => .jmp l
  | _ => .oth
def kds (ss : Sts) : List (Kd Str) := ss.map kd
theorem spotN_some {ss : Sts} {l : Str} {i : Nat} : ∀ {n : Nat}, spotN ss l n = some i → labAt ss i = some l ∧ i < n
  | 0, h => by cases h
  | n + 1, h => by
    unfold spotN at h
    by_cases e : labAt ss n = some l
    · rw [if_pos e] at h
      cases h
      exact ⟨e, Nat.lt_succ_self _⟩
    · rw [if_neg e] at h
      obtain ⟨a, b⟩ := spotN_some h
      exact ⟨a, Nat.lt_succ_of_lt b⟩
theorem spotN_has {ss : Sts} {l : Str} {i : Nat} (h : labAt ss i = some l) : ∀ {n : Nat}, i < n → ∃ j, spotN ss l n = some j
  | 0, z => by omega
  | n + 1, z => by
    unfold spotN
    by_cases e : labAt ss n = some l
    · rw [if_pos e]; exact ⟨_, rfl⟩
    · rw [if_neg e]
      exact spotN_has h (by
        rcases Nat.lt_or_ge i n with q | q
        · exact q
        · have : i = n := by omega
          subst this
          exact absurd h e)
theorem labAt_lt {ss : Sts} {l : Str} {i : Nat} (h : labAt ss i = some l) : i < ss.length := by
  unfold labAt at h
  by_cases hl : i < ss.length
  · exact hl
  · rw [List.getElem?_eq_none (by omega)] at h
    cases h
theorem labAt_kd {ss : Sts} {l : Str} {i : Nat} : labAt ss i = some l ↔ (kds ss)[i]? = some (.lab l) := by
  unfold labAt kds
  rw [List.getElem?_map]
  cases h : ss[i]? with
  | none => simp
  | some p =>
    obtain ⟨k, s⟩ := p
    cases s <;> simp [kd]
theorem spot_lab {ss : Sts} {l : Str} {i : Nat} (h : spotO ss l = some i) : (kds ss)[spot ss l]? = some (.lab l) := by
  have e : spot ss l = i := by unfold spot; rw [h]; rfl
  rw [e]
  exact labAt_kd.mp (spotN_some h).1
theorem kds_len (ss : Sts) : (kds ss).length = ss.length := List.length_map ..
def okK : Key → Bool
  | .inl _ => true
  | .inr z => PyData.strOk z
structure Good (ss : Sts) : Prop where
  jmp : ∀ (i : Nat) (k : Int) (l : Str), ss[i]? = some (k, Stp.jump l) → (spotO ss l).isSome = true
  arm : ∀ (i : Nat) (k : Int) (as : List ArmT), ss[i]? = some (k, Stp.summon as) → ∀ l gs, some (l, gs) ∈ as → (spotO ss l).isSome = true
  len : ss.length ≤ 100
  ats : ∀ (i : Nat) (k way : Int) (as : List Key), ss[i]? = some (k, Stp.ret way as) → ∀ x ∈ as, okK x = true
  aln : ∀ (i : Nat) (k : Int) (as : List ArmT), ss[i]? = some (k, Stp.summon as) → as.length ≤ 100
  gls : ∀ (i : Nat) (k : Int) (as : List ArmT), ss[i]? = some (k, Stp.summon as) → ∀ l gs, some (l, gs) ∈ as → ∀ z ∈ gs, PyData.strOk z = true
def SpotsAt (H : Hp) (d : Addr) (ss : Sts) (n : Nat) : Prop := ∃ kvs : List (Key × V), H d = some (.dK kvs) ∧ kvs.length ≤ n ∧ ∀ l : Str, valV kvs (Sum.inr l) = (spotN ss l n).map fun i => V.int (i : Nat)
theorem SpotsAt.same {H H' : Hp} {d : Addr} {ss : Sts} {n : Nat} (s : Same H H') (h : SpotsAt H d ss n) : SpotsAt H' d ss n := by
  obtain ⟨kvs, h1, h2⟩ := h
  exact ⟨kvs, s _ _ h1, h2⟩
theorem SpotsAt.get {H : Hp} {d : Addr} {ss : Sts} {l : Str} (h : SpotsAt H d ss ss.length) (hl : (spotO ss l).isSome = true) : DGet H d (.str l) (some (.int (spot ss l : Nat))) := by
  obtain ⟨kvs, h1, _, h2⟩ := h
  have z := DGet.k (k := Sum.inr l) h1
  rw [h2 l] at z
  have e : (spotN ss l ss.length).map (fun i => V.int (i : Nat)) = some (V.int (spot ss l : Nat)) := by
    obtain ⟨i, hi⟩ := Option.isSome_iff_exists.mp hl
    have e1 : spotN ss l ss.length = some i := hi
    have e2 : spot ss l = i := by unfold spot; rw [hi]; rfl
    rw [e1, e2]; rfl
  rw [e] at z
  exact z
structure Isi (K : PySem.W.Frag) (mg : Str → Option Value) (c : Cs) : Prop where
  isn : mg "isinstance" = none
  len : mg "len" = none
  lst : mg "list" = none
  str : mg "str" = none
  rng : mg "range" = none
  enu : mg "enumerate" = none
  zip : mg "zip" = none
  min : mg "min" = none
  gl : mg "Label" = some (.ref c.label)
  gj : mg "Jump" = some (.ref c.jump)
  gr : mg "Return" = some (.ref c.ret)
  gs : mg "Summon" = some (.ref c.summon)
  gh : mg "Handon" = some (.ref c.handon)
  tl : TyC K c.label
  tm : TyC K c.move
  tt : TyC K c.tell
  tj : TyC K c.jump
  ts : TyC K c.summon
  th : TyC K c.handon
  tr : TyC K c.ret
  il : ∀ C ∈ [c.label, c.move, c.tell, c.jump, c.summon, c.handon, c.ret], PySem.W.kitOne K (.ref C) (.ref c.label) = some (decide (C = c.label))
  ij : ∀ C ∈ [c.label, c.move, c.tell, c.jump, c.summon, c.handon, c.ret], PySem.W.kitOne K (.ref C) (.ref c.jump) = some (decide (C = c.jump))
  ir : ∀ C ∈ [c.label, c.move, c.tell, c.jump, c.summon, c.handon, c.ret], PySem.W.kitOne K (.ref C) (.ref c.ret) = some (decide (C = c.ret))
  is_ : ∀ C ∈ [c.label, c.move, c.tell, c.jump, c.summon, c.handon, c.ret], PySem.W.kitOne K (.ref C) (.ref c.summon) = some (decide (C = c.summon))
  ih : ∀ C ∈ [c.label, c.move, c.tell, c.jump, c.summon, c.handon, c.ret], PySem.W.kitOne K (.ref C) (.ref c.handon) = some (decide (C = c.handon))
  nr : PySem.W.kitOne K (.type "NoneType") (.ref c.ret) = some false
  nd : [c.label, c.move, c.tell, c.jump, c.summon, c.handon, c.ret].Nodup
def isL : Stp → Bool
  | .label _ => true
  | _ => false
def isJ : Stp → Bool
  | .jump _ => true
  | _ => false
def isR : Stp → Bool
  | .ret _ _ => true
  | _ => false
def isS : Stp → Bool
  | .summon _ => true
  | _ => false
section
variable {K : PySem.W.Frag} {mg : Str → Option Value} {c : Cs} {H : Hp}
theorem Isi.ne (T : Isi K mg c) : c.label ≠ c.move ∧ c.label ≠ c.tell ∧ c.label ≠ c.jump ∧ c.label ≠ c.summon ∧ c.label ≠ c.handon ∧ c.label ≠ c.ret ∧ c.move ≠ c.tell ∧ c.move ≠ c.jump ∧ c.move ≠ c.summon ∧ c.move ≠ c.handon ∧ c.move ≠ c.ret ∧ c.tell ≠ c.jump ∧ c.tell ≠ c.summon ∧ c.tell ≠ c.handon ∧ c.tell ≠ c.ret ∧
    c.jump ≠ c.summon ∧ c.jump ≠ c.handon ∧ c.jump ≠ c.ret ∧ c.summon ≠ c.handon ∧ c.summon ≠ c.ret ∧ c.handon ≠ c.ret := by
  have h := T.nd
  simp only [List.nodup_cons, List.mem_cons, List.not_mem_nil, or_false, not_or, List.nodup_nil, and_true, not_false_eq_true] at h
  obtain ⟨⟨a1, a2, a3, a4, a5, a6⟩, ⟨b1, b2, b3, b4, b5⟩, ⟨c1, c2, c3, c4⟩, ⟨d1, d2, d3⟩, ⟨e1, e2⟩, f1⟩ := h
  exact ⟨a1, a2, a3, a4, a5, a6, b1, b2, b3, b4, b5, c1, c2, c3, c4, d1, d2, d3, e1, e2, f1⟩
theorem Isi.ty (T : Isi K mg c) {v : V} {k : Int} {s : Stp} (h : StepAt c H v k s) : ∃ C, C ∈ [c.label, c.move, c.tell, c.jump, c.summon, c.handon, c.ret] ∧ TyOf K H v (.ref C) ∧ decide (C = c.label) = isL s ∧ decide (C = c.jump) = isJ s ∧ decide (C = c.ret) = isR s ∧ decide (C = c.summon) = isS s := by
  obtain ⟨a1, a2, a3, a4, a5, a6, b1, b2, b3, b4, b5, c1, c2, c3, c4, d1, d2, d3, e1, e2, f1⟩ := T.ne
  cases h with
  | label h hm => exact ⟨c.label, by simp, T.tl.of h, decide_eq_true rfl, decide_eq_false a3, decide_eq_false a6, decide_eq_false a4⟩
  | jump h hm => exact ⟨c.jump, by simp, T.tj.of h, decide_eq_false (Ne.symm a3), decide_eq_true rfl, decide_eq_false d3, decide_eq_false d1⟩
  | ret h hm hg => exact ⟨c.ret, by simp, T.tr.of h, decide_eq_false (Ne.symm a6), decide_eq_false (Ne.symm d3), decide_eq_true rfl, decide_eq_false (Ne.symm e2)⟩
  | tell h hm => exact ⟨c.tell, by simp, T.tt.of h, decide_eq_false (Ne.symm a2), decide_eq_false c1, decide_eq_false c4, decide_eq_false c2⟩
  | move h hm => exact ⟨c.move, by simp, T.tm.of h, decide_eq_false (Ne.symm a1), decide_eq_false b2, decide_eq_false b5, decide_eq_false b3⟩
  | summon h hm hg hr ha => exact ⟨c.summon, by simp, T.ts.of h, decide_eq_false (Ne.symm a4), decide_eq_false (Ne.symm d1), decide_eq_false e2, decide_eq_true rfl⟩
theorem Isi.isL (T : Isi K mg c) {v : V} {k : Int} {s : Stp} (h : StepAt c H v k s) : ∃ t, TyOf K H v t ∧ PySem.W.kitOne K t (.ref c.label) = some (K45.isL s) := by
  obtain ⟨C, m, ty, e1, e2, e3, e4⟩ := T.ty h
  exact ⟨_, ty, by rw [T.il C m, e1]⟩
theorem Isi.isJ (T : Isi K mg c) {v : V} {k : Int} {s : Stp} (h : StepAt c H v k s) : ∃ t, TyOf K H v t ∧ PySem.W.kitOne K t (.ref c.jump) = some (K45.isJ s) := by
  obtain ⟨C, m, ty, e1, e2, e3, e4⟩ := T.ty h
  exact ⟨_, ty, by rw [T.ij C m, e2]⟩
theorem Isi.isR (T : Isi K mg c) {v : V} {k : Int} {s : Stp} (h : StepAt c H v k s) : ∃ t, TyOf K H v t ∧ PySem.W.kitOne K t (.ref c.ret) = some (K45.isR s) := by
  obtain ⟨C, m, ty, e1, e2, e3, e4⟩ := T.ty h
  exact ⟨_, ty, by rw [T.ir C m, e3]⟩
theorem Isi.isS (T : Isi K mg c) {v : V} {k : Int} {s : Stp} (h : StepAt c H v k s) : ∃ t, TyOf K H v t ∧ PySem.W.kitOne K t (.ref c.summon) = some (K45.isS s) := by
  obtain ⟨C, m, ty, e1, e2, e3, e4⟩ := T.ty h
  exact ⟨_, ty, by rw [T.is_ C m, e4]⟩
end
end K45
set_option maxRecDepth 100000
namespace K45
open PySem L2
theorem putF_new {f : Str} {y : V} : ∀ {fs : List (Str × V)}, f ∉ fs.map Prod.fst → putF f y fs = fs ++ [(f, y)]
  | [], _ => rfl
  | (g, x) :: fs, h => by
    have h1 : ¬ g = f := fun z => h (by rw [z]; exact List.mem_cons_self ..)
    have h2 : f ∉ fs.map Prod.fst := fun z => h (List.mem_cons_of_mem _ z)
    show (if g = f then (g, y) :: fs else (g, x) :: putF f y fs) = _
    rw [if_neg h1, putF_new h2]
    rfl
def spBase (K : PySem.W.Frag) (fl : List Str) : Sp := fun vs H Q _ => ∃ x C dx as, vs = .ref x :: as ∧ as.length = fl.length ∧ H x = some (.ins C dx []) ∧ Cls K C ∧ (∀ f ∈ fl, NoAttr K C f) ∧ Q .non (upd H x (.ins C dx (fl.zip as)))
structure BaseI (P : Program) (w : World) (K : PySem.W.Frag) (mg : Str → Option Value) (base : Heap) (x : Str) (B : Addr) (ps fl : List Str) : Prop where
  is : ∃ (f : Addr) (fd : FuncData), mg x = some (.ref B) ∧ Base K B "__init__" f ∧ Binds K fd ps [] ∧ FnOk P w K mg base CX0 1 f fd ps (spBase K fl)
section
variable {P : Program} {w : World} {K : PySem.W.Frag} {mg : Str → Option Value} {base : Heap}
abbrev sStepI : Stmt := inClass (top 3) 0
theorem scStepI : FnScope ["self", "mark"] ["self", "mark"] (defScope sStepI) := ⟨rfl, rfl, rfl, by decide +kernel, rfl, by decide +kernel, by decide +kernel⟩
theorem ok_stepI {g : Addr} {gd : FuncData} (F : Fun K "__init__" "Step.__init__" sStepI g gd) : FnOk P w K mg base CX0 1 g gd ["self", "mark"] (spBase K ["mark"]) := by
  refine F.ok scStepI (fun vs H Q E h => ?_) (fun cdv A outer s H vs Q E hr h => ?_)
  · obtain ⟨x, C, dx, as, rfl, hl, _⟩ := h
    simpa using hl
  · obtain ⟨x, C, dx, as, rfl, hl, hx, cl, na, q⟩ := h
    match as, hl with
    | [p], _ =>
      refine ⟨_, pss_one (ps_fld (pv 0) (pv 1) rfl), ?_⟩
      exact ⟨_, rfl, _, rfl, x, C, dx, _, rfl, hx, cl, na _ (by simp), by show 0 < 1000; decide, q⟩
def spNLabel (C : Addr) : Sp := fun vs H Q _ => ∃ (x dx : Addr) (y0 : V) (y1 : V), vs = [.ref x, y0, y1] ∧ H x = some (.ins C dx []) ∧ ∀ (H' : Hp), SameD x H H' → H' x = some (.ins C dx [("mark", y0), ("label", y1)]) → Q .non H'
abbrev sLabelI : Stmt := inClass (top 4) 0
theorem scLabelI : FnScope ["self", "mark", "label"] ["self", "mark", "label"] (defScope sLabelI) := ⟨rfl, rfl, rfl, by decide +kernel, rfl, by decide +kernel, by decide +kernel⟩
set_option maxHeartbeats 4000000 in
theorem ok_LabelI {g C B : Addr} {gd : FuncData} (F : Fun K "__init__" "Label.__init__" sLabelI g gd) (BI : BaseI P w K mg base "Step" B ["self", "mark"] ["mark"]) (cl : Cls K C) (n0 : NoAttr K C "mark") (n1 : NoAttr K C "label") : FnOk P w K mg base CX0 2 g gd ["self", "mark", "label"] (spNLabel C) := by
  obtain ⟨gb, db, mb, hB, bb, GB⟩ := BI.is
  refine F.ok scLabelI (fun vs H Q E h => ?_) (fun cdv A outer s H vs Q E hr h => ?_)
  · obtain ⟨x, dx, y0, y1, rfl, _⟩ := h
    rfl
  · obtain ⟨x, dx, y0, y1, rfl, hx, q⟩ := h
    refine ⟨_, pss_cons (ps_expr (pe_base (by rfl) mb hB GB hr bb .nil pass0 (pa_cons (pv 0) (pa_cons (pv 1) pa_nil)))) (pss_one (ps_fld (pv 0) (pv 2) rfl)), ?_⟩
    have s0 : SameD x H H := SameD.refl x H
    have na : ∀ f ∈ (["mark"] : List Str), NoAttr K C f := fun f hf => by
      simp only [List.mem_cons, List.not_mem_nil, or_false] at hf
      subst hf
      exact n0
    refine ⟨_, rfl, _, rfl, x, C, dx, [y0], rfl, rfl, hx, cl, na, ?_⟩
    rw [show (["mark"] : List Str).zip [y0] = [(("mark" : Str), y0)] from rfl]
    have s1 := SameD.upd (o := .ins C dx [(("mark" : Str), y0)]) s0
    refine ⟨_, rfl, _, rfl, x, C, dx, _, rfl, upd_same, cl, n1, by show 1 < 1000; decide, ?_⟩
    rw [show putF ("label" : Str) y1 [(("mark" : Str), y0)] = [(("mark" : Str), y0), (("label" : Str), y1)] from putF_new (fs := [(("mark" : Str), y0)]) (by show ("label" : Str) ∉ (["mark"] : List Str); decide)]
    have u1 := SameD.upd (o := .ins C dx [(("mark" : Str), y0), (("label" : Str), y1)]) s1
    exact q _ u1 upd_same
def spNMove (C : Addr) : Sp := fun vs H Q _ => ∃ (x dx : Addr) (y0 : V) (y1 : V) (y2 : V), vs = [.ref x, y0, y1, y2] ∧ H x = some (.ins C dx []) ∧ ∀ (H' : Hp), SameD x H H' → H' x = some (.ins C dx [("mark", y0), ("goal", y1), ("atom", y2)]) → Q .non H'
abbrev sMoveI : Stmt := inClass (top 5) 0
theorem scMoveI : FnScope ["self", "mark", "goal", "atom"] ["self", "mark", "goal", "atom"] (defScope sMoveI) := ⟨rfl, rfl, rfl, by decide +kernel, rfl, by decide +kernel, by decide +kernel⟩
set_option maxHeartbeats 4000000 in
theorem ok_MoveI {g C B : Addr} {gd : FuncData} (F : Fun K "__init__" "Move.__init__" sMoveI g gd) (BI : BaseI P w K mg base "Step" B ["self", "mark"] ["mark"]) (cl : Cls K C) (n0 : NoAttr K C "mark") (n1 : NoAttr K C "goal") (n2 : NoAttr K C "atom") : FnOk P w K mg base CX0 2 g gd ["self", "mark", "goal", "atom"] (spNMove C) := by
  obtain ⟨gb, db, mb, hB, bb, GB⟩ := BI.is
  refine F.ok scMoveI (fun vs H Q E h => ?_) (fun cdv A outer s H vs Q E hr h => ?_)
  · obtain ⟨x, dx, y0, y1, y2, rfl, _⟩ := h
    rfl
  · obtain ⟨x, dx, y0, y1, y2, rfl, hx, q⟩ := h
    refine ⟨_, pss_cons (ps_expr (pe_base (by rfl) mb hB GB hr bb .nil pass0 (pa_cons (pv 0) (pa_cons (pv 1) pa_nil)))) (pss_cons (ps_fld (pv 0) (pv 2) rfl) (pss_one (ps_fld (pv 0) (pv 3) rfl))), ?_⟩
    have s0 : SameD x H H := SameD.refl x H
    have na : ∀ f ∈ (["mark"] : List Str), NoAttr K C f := fun f hf => by
      simp only [List.mem_cons, List.not_mem_nil, or_false] at hf
      subst hf
      exact n0
    refine ⟨_, rfl, _, rfl, x, C, dx, [y0], rfl, rfl, hx, cl, na, ?_⟩
    rw [show (["mark"] : List Str).zip [y0] = [(("mark" : Str), y0)] from rfl]
    have s1 := SameD.upd (o := .ins C dx [(("mark" : Str), y0)]) s0
    refine ⟨_, rfl, _, rfl, x, C, dx, _, rfl, upd_same, cl, n1, by show 1 < 1000; decide, ?_⟩
    rw [show putF ("goal" : Str) y1 [(("mark" : Str), y0)] = [(("mark" : Str), y0), (("goal" : Str), y1)] from putF_new (fs := [(("mark" : Str), y0)]) (by show ("goal" : Str) ∉ (["mark"] : List Str); decide)]
    have u1 := SameD.upd (o := .ins C dx [(("mark" : Str), y0), (("goal" : Str), y1)]) s1
    refine ⟨_, rfl, _, rfl, x, C, dx, _, rfl, upd_same, cl, n2, by show 2 < 1000; decide, ?_⟩
    rw [show putF ("atom" : Str) y2 [(("mark" : Str), y0), (("goal" : Str), y1)] = [(("mark" : Str), y0), (("goal" : Str), y1), (("atom" : Str), y2)] from putF_new (fs := [(("mark" : Str), y0), (("goal" : Str), y1)]) (by show ("atom" : Str) ∉ (["mark", "goal"] : List Str); decide)]
    have u2 := SameD.upd (o := .ins C dx [(("mark" : Str), y0), (("goal" : Str), y1), (("atom" : Str), y2)]) u1
    exact q _ u2 upd_same
def spNTell (C : Addr) : Sp := fun vs H Q _ => ∃ (x dx : Addr) (y0 : V) (y1 : V), vs = [.ref x, y0, y1] ∧ H x = some (.ins C dx []) ∧ ∀ (H' : Hp), SameD x H H' → H' x = some (.ins C dx [("mark", y0), ("atom", y1)]) → Q .non H'
abbrev sTellI : Stmt := inClass (top 6) 0
theorem scTellI : FnScope ["self", "mark", "atom"] ["self", "mark", "atom"] (defScope sTellI) := ⟨rfl, rfl, rfl, by decide +kernel, rfl, by decide +kernel, by decide +kernel⟩
set_option maxHeartbeats 4000000 in
theorem ok_TellI {g C B : Addr} {gd : FuncData} (F : Fun K "__init__" "Tell.__init__" sTellI g gd) (BI : BaseI P w K mg base "Step" B ["self", "mark"] ["mark"]) (cl : Cls K C) (n0 : NoAttr K C "mark") (n1 : NoAttr K C "atom") : FnOk P w K mg base CX0 2 g gd ["self", "mark", "atom"] (spNTell C) := by
  obtain ⟨gb, db, mb, hB, bb, GB⟩ := BI.is
  refine F.ok scTellI (fun vs H Q E h => ?_) (fun cdv A outer s H vs Q E hr h => ?_)
  · obtain ⟨x, dx, y0, y1, rfl, _⟩ := h
    rfl
  · obtain ⟨x, dx, y0, y1, rfl, hx, q⟩ := h
    refine ⟨_, pss_cons (ps_expr (pe_base (by rfl) mb hB GB hr bb .nil pass0 (pa_cons (pv 0) (pa_cons (pv 1) pa_nil)))) (pss_one (ps_fld (pv 0) (pv 2) rfl)), ?_⟩
    have s0 : SameD x H H := SameD.refl x H
    have na : ∀ f ∈ (["mark"] : List Str), NoAttr K C f := fun f hf => by
      simp only [List.mem_cons, List.not_mem_nil, or_false] at hf
      subst hf
      exact n0
    refine ⟨_, rfl, _, rfl, x, C, dx, [y0], rfl, rfl, hx, cl, na, ?_⟩
    rw [show (["mark"] : List Str).zip [y0] = [(("mark" : Str), y0)] from rfl]
    have s1 := SameD.upd (o := .ins C dx [(("mark" : Str), y0)]) s0
    refine ⟨_, rfl, _, rfl, x, C, dx, _, rfl, upd_same, cl, n1, by show 1 < 1000; decide, ?_⟩
    rw [show putF ("atom" : Str) y1 [(("mark" : Str), y0)] = [(("mark" : Str), y0), (("atom" : Str), y1)] from putF_new (fs := [(("mark" : Str), y0)]) (by show ("atom" : Str) ∉ (["mark"] : List Str); decide)]
    have u1 := SameD.upd (o := .ins C dx [(("mark" : Str), y0), (("atom" : Str), y1)]) s1
    exact q _ u1 upd_same
def spNJump (C : Addr) : Sp := fun vs H Q _ => ∃ (x dx : Addr) (y0 : V) (y1 : V), vs = [.ref x, y0, y1] ∧ H x = some (.ins C dx []) ∧ ∀ (H' : Hp), SameD x H H' → H' x = some (.ins C dx [("mark", y0), ("label", y1)]) → Q .non H'
abbrev sJumpI : Stmt := inClass (top 7) 0
theorem scJumpI : FnScope ["self", "mark", "label"] ["self", "mark", "label"] (defScope sJumpI) := ⟨rfl, rfl, rfl, by decide +kernel, rfl, by decide +kernel, by decide +kernel⟩
set_option maxHeartbeats 4000000 in
theorem ok_JumpI {g C B : Addr} {gd : FuncData} (F : Fun K "__init__" "Jump.__init__" sJumpI g gd) (BI : BaseI P w K mg base "Step" B ["self", "mark"] ["mark"]) (cl : Cls K C) (n0 : NoAttr K C "mark") (n1 : NoAttr K C "label") : FnOk P w K mg base CX0 2 g gd ["self", "mark", "label"] (spNJump C) := by
  obtain ⟨gb, db, mb, hB, bb, GB⟩ := BI.is
  refine F.ok scJumpI (fun vs H Q E h => ?_) (fun cdv A outer s H vs Q E hr h => ?_)
  · obtain ⟨x, dx, y0, y1, rfl, _⟩ := h
    rfl
  · obtain ⟨x, dx, y0, y1, rfl, hx, q⟩ := h
    refine ⟨_, pss_cons (ps_expr (pe_base (by rfl) mb hB GB hr bb .nil pass0 (pa_cons (pv 0) (pa_cons (pv 1) pa_nil)))) (pss_one (ps_fld (pv 0) (pv 2) rfl)), ?_⟩
    have s0 : SameD x H H := SameD.refl x H
    have na : ∀ f ∈ (["mark"] : List Str), NoAttr K C f := fun f hf => by
      simp only [List.mem_cons, List.not_mem_nil, or_false] at hf
      subst hf
      exact n0
    refine ⟨_, rfl, _, rfl, x, C, dx, [y0], rfl, rfl, hx, cl, na, ?_⟩
    rw [show (["mark"] : List Str).zip [y0] = [(("mark" : Str), y0)] from rfl]
    have s1 := SameD.upd (o := .ins C dx [(("mark" : Str), y0)]) s0
    refine ⟨_, rfl, _, rfl, x, C, dx, _, rfl, upd_same, cl, n1, by show 1 < 1000; decide, ?_⟩
    rw [show putF ("label" : Str) y1 [(("mark" : Str), y0)] = [(("mark" : Str), y0), (("label" : Str), y1)] from putF_new (fs := [(("mark" : Str), y0)]) (by show ("label" : Str) ∉ (["mark"] : List Str); decide)]
    have u1 := SameD.upd (o := .ins C dx [(("mark" : Str), y0), (("label" : Str), y1)]) s1
    exact q _ u1 upd_same
def spNHandon (C : Addr) : Sp := fun vs H Q _ => ∃ (x dx : Addr) (y0 : V) (y1 : V) (y2 : Addr) (y3 : Addr) (l2 : List V) (l3 : List V), vs = [.ref x, y0, y1, .ref y2, .ref y3] ∧ H x = some (.ins C dx []) ∧ H y2 = some (.lst l2) ∧ H y3 = some (.lst l3) ∧ ∀ (H' : Hp) (z2 : Addr) (z3 : Addr), SameD x H H' → H' x = some (.ins C dx [("mark", y0), ("callee", y1), ("atoms", .ref z2), ("ways", .ref z3)]) → H' z2 = some (.lst l2) → H z2 = none → H' z3 = some (.lst l3) → H z3 = none → Q .non H'
abbrev sHandonI : Stmt := inClass (top 9) 0
theorem scHandonI : FnScope ["self", "mark", "callee", "atoms", "ways"] ["self", "mark", "callee", "atoms", "ways"] (defScope sHandonI) := ⟨rfl, rfl, rfl, by decide +kernel, rfl, by decide +kernel, by decide +kernel⟩
set_option maxHeartbeats 4000000 in
theorem ok_HandonI {g C B : Addr} {gd : FuncData} (F : Fun K "__init__" "Handon.__init__" sHandonI g gd) (BI : BaseI P w K mg base "Step" B ["self", "mark"] ["mark"]) (ml : mg "list" = none) (cl : Cls K C) (n0 : NoAttr K C "mark") (n1 : NoAttr K C "callee") (n2 : NoAttr K C "atoms") (n3 : NoAttr K C "ways") : FnOk P w K mg base CX0 2 g gd ["self", "mark", "callee", "atoms", "ways"] (spNHandon C) := by
  obtain ⟨gb, db, mb, hB, bb, GB⟩ := BI.is
  refine F.ok scHandonI (fun vs H Q E h => ?_) (fun cdv A outer s H vs Q E hr h => ?_)
  · obtain ⟨x, dx, y0, y1, y2, y3, l2, l3, rfl, _⟩ := h
    rfl
  · obtain ⟨x, dx, y0, y1, y2, y3, l2, l3, rfl, hx, h2, h3, q⟩ := h
    refine ⟨_, pss_cons (ps_expr (pe_base (by rfl) mb hB GB hr bb .nil pass0 (pa_cons (pv 0) (pa_cons (pv 1) pa_nil)))) (pss_cons (ps_fld (pv 0) (pv 2) rfl) (pss_cons (ps_fld (pv 0) (pe_callTy call_list_of (by rfl) ml boot_list (pa_cons (pv 3) pa_nil)) rfl) (pss_one (ps_fld (pv 0) (pe_callTy call_list_of (by rfl) ml boot_list (pa_cons (pv 4) pa_nil)) rfl)))), ?_⟩
    have s0 : SameD x H H := SameD.refl x H
    have na : ∀ f ∈ (["mark"] : List Str), NoAttr K C f := fun f hf => by
      simp only [List.mem_cons, List.not_mem_nil, or_false] at hf
      subst hf
      exact n0
    refine ⟨_, rfl, _, rfl, x, C, dx, [y0], rfl, rfl, hx, cl, na, ?_⟩
    rw [show (["mark"] : List Str).zip [y0] = [(("mark" : Str), y0)] from rfl]
    have s1 := SameD.upd (o := .ins C dx [(("mark" : Str), y0)]) s0
    refine ⟨_, rfl, _, rfl, x, C, dx, _, rfl, upd_same, cl, n1, by show 1 < 1000; decide, ?_⟩
    rw [show putF ("callee" : Str) y1 [(("mark" : Str), y0)] = [(("mark" : Str), y0), (("callee" : Str), y1)] from putF_new (fs := [(("mark" : Str), y0)]) (by show ("callee" : Str) ∉ (["mark"] : List Str); decide)]
    have u1 := SameD.upd (o := .ins C dx [(("mark" : Str), y0), (("callee" : Str), y1)]) s1
    refine ⟨_, rfl, y2, l2, rfl, .inl (SqL.of (u1 y2 _ (ne_of h2 hx (by intro z; cases z)) h2)), fun z2 hz2 => ?_⟩
    have nz2 : z2 ≠ x := fun z => by rw [z] at hz2; rw [upd_same] at hz2; cases hz2
    have fz2 : H z2 = none := by
      cases e : H z2 with
      | none => rfl
      | some o => exact absurd (u1 z2 o nz2 e) (by rw [hz2]; simp)
    have t2 := u1.trans (same_new (o := .lst l2) (Same.refl _) hz2).toD
    refine ⟨_, rfl, x, C, dx, _, rfl, (by rw [upd_ne (Ne.symm nz2)]; exact upd_same), cl, n2, by show 2 < 1000; decide, ?_⟩
    rw [show putF ("atoms" : Str) (V.ref z2) [(("mark" : Str), y0), (("callee" : Str), y1)] = [(("mark" : Str), y0), (("callee" : Str), y1), (("atoms" : Str), V.ref z2)] from putF_new (fs := [(("mark" : Str), y0), (("callee" : Str), y1)]) (by show ("atoms" : Str) ∉ (["mark", "callee"] : List Str); decide)]
    have u2 := SameD.upd (o := .ins C dx [(("mark" : Str), y0), (("callee" : Str), y1), (("atoms" : Str), V.ref z2)]) t2
    refine ⟨_, rfl, y3, l3, rfl, .inl (SqL.of (u2 y3 _ (ne_of h3 hx (by intro z; cases z)) h3)), fun z3 hz3 => ?_⟩
    have nz3 : z3 ≠ x := fun z => by rw [z] at hz3; rw [upd_same] at hz3; cases hz3
    have fz3 : H z3 = none := by
      cases e : H z3 with
      | none => rfl
      | some o => exact absurd (u2 z3 o nz3 e) (by rw [hz3]; simp)
    have n2_3 : z2 ≠ z3 := fun z => by rw [← z] at hz3; rw [upd_ne nz2, upd_same] at hz3; cases hz3
    have t3 := u2.trans (same_new (o := .lst l3) (Same.refl _) hz3).toD
    refine ⟨_, rfl, x, C, dx, _, rfl, (by rw [upd_ne (Ne.symm nz3)]; exact upd_same), cl, n3, by show 3 < 1000; decide, ?_⟩
    rw [show putF ("ways" : Str) (V.ref z3) [(("mark" : Str), y0), (("callee" : Str), y1), (("atoms" : Str), V.ref z2)] = [(("mark" : Str), y0), (("callee" : Str), y1), (("atoms" : Str), V.ref z2), (("ways" : Str), V.ref z3)] from putF_new (fs := [(("mark" : Str), y0), (("callee" : Str), y1), (("atoms" : Str), V.ref z2)]) (by show ("ways" : Str) ∉ (["mark", "callee", "atoms"] : List Str); decide)]
    have u3 := SameD.upd (o := .ins C dx [(("mark" : Str), y0), (("callee" : Str), y1), (("atoms" : Str), V.ref z2), (("ways" : Str), V.ref z3)]) t3
    exact q _ z2 z3 u3 upd_same (by rw [upd_ne nz2, upd_ne n2_3, upd_ne nz2, upd_same]) fz2 (by rw [upd_ne nz3, upd_same]) fz3
def spNReturn (C : Addr) : Sp := fun vs H Q _ => ∃ (x dx : Addr) (y0 : V) (y1 : V) (y2 : Addr) (l2 : List V), vs = [.ref x, y0, y1, .ref y2] ∧ H x = some (.ins C dx []) ∧ H y2 = some (.lst l2) ∧ ∀ (H' : Hp) (z2 : Addr), SameD x H H' → H' x = some (.ins C dx [("mark", y0), ("way", y1), ("atoms", .ref z2)]) → H' z2 = some (.lst l2) → H z2 = none → Q .non H'
abbrev sReturnI : Stmt := inClass (top 10) 0
theorem scReturnI : FnScope ["self", "mark", "way", "atoms"] ["self", "mark", "way", "atoms"] (defScope sReturnI) := ⟨rfl, rfl, rfl, by decide +kernel, rfl, by decide +kernel, by decide +kernel⟩
set_option maxHeartbeats 4000000 in
theorem ok_ReturnI {g C B : Addr} {gd : FuncData} (F : Fun K "__init__" "Return.__init__" sReturnI g gd) (BI : BaseI P w K mg base "Step" B ["self", "mark"] ["mark"]) (ml : mg "list" = none) (cl : Cls K C) (n0 : NoAttr K C "mark") (n1 : NoAttr K C "way") (n2 : NoAttr K C "atoms") : FnOk P w K mg base CX0 2 g gd ["self", "mark", "way", "atoms"] (spNReturn C) := by
  obtain ⟨gb, db, mb, hB, bb, GB⟩ := BI.is
  refine F.ok scReturnI (fun vs H Q E h => ?_) (fun cdv A outer s H vs Q E hr h => ?_)
  · obtain ⟨x, dx, y0, y1, y2, l2, rfl, _⟩ := h
    rfl
  · obtain ⟨x, dx, y0, y1, y2, l2, rfl, hx, h2, q⟩ := h
    refine ⟨_, pss_cons (ps_expr (pe_base (by rfl) mb hB GB hr bb .nil pass0 (pa_cons (pv 0) (pa_cons (pv 1) pa_nil)))) (pss_cons (ps_fld (pv 0) (pv 2) rfl) (pss_one (ps_fld (pv 0) (pe_callTy call_list_of (by rfl) ml boot_list (pa_cons (pv 3) pa_nil)) rfl))), ?_⟩
    have s0 : SameD x H H := SameD.refl x H
    have na : ∀ f ∈ (["mark"] : List Str), NoAttr K C f := fun f hf => by
      simp only [List.mem_cons, List.not_mem_nil, or_false] at hf
      subst hf
      exact n0
    refine ⟨_, rfl, _, rfl, x, C, dx, [y0], rfl, rfl, hx, cl, na, ?_⟩
    rw [show (["mark"] : List Str).zip [y0] = [(("mark" : Str), y0)] from rfl]
    have s1 := SameD.upd (o := .ins C dx [(("mark" : Str), y0)]) s0
    refine ⟨_, rfl, _, rfl, x, C, dx, _, rfl, upd_same, cl, n1, by show 1 < 1000; decide, ?_⟩
    rw [show putF ("way" : Str) y1 [(("mark" : Str), y0)] = [(("mark" : Str), y0), (("way" : Str), y1)] from putF_new (fs := [(("mark" : Str), y0)]) (by show ("way" : Str) ∉ (["mark"] : List Str); decide)]
    have u1 := SameD.upd (o := .ins C dx [(("mark" : Str), y0), (("way" : Str), y1)]) s1
    refine ⟨_, rfl, y2, l2, rfl, .inl (SqL.of (u1 y2 _ (ne_of h2 hx (by intro z; cases z)) h2)), fun z2 hz2 => ?_⟩
    have nz2 : z2 ≠ x := fun z => by rw [z] at hz2; rw [upd_same] at hz2; cases hz2
    have fz2 : H z2 = none := by
      cases e : H z2 with
      | none => rfl
      | some o => exact absurd (u1 z2 o nz2 e) (by rw [hz2]; simp)
    have t2 := u1.trans (same_new (o := .lst l2) (Same.refl _) hz2).toD
    refine ⟨_, rfl, x, C, dx, _, rfl, (by rw [upd_ne (Ne.symm nz2)]; exact upd_same), cl, n2, by show 2 < 1000; decide, ?_⟩
    rw [show putF ("atoms" : Str) (V.ref z2) [(("mark" : Str), y0), (("way" : Str), y1)] = [(("mark" : Str), y0), (("way" : Str), y1), (("atoms" : Str), V.ref z2)] from putF_new (fs := [(("mark" : Str), y0), (("way" : Str), y1)]) (by show ("atoms" : Str) ∉ (["mark", "way"] : List Str); decide)]
    have u2 := SameD.upd (o := .ins C dx [(("mark" : Str), y0), (("way" : Str), y1), (("atoms" : Str), V.ref z2)]) t2
    exact q _ z2 u2 upd_same (by rw [upd_ne nz2, upd_same]) fz2
def spNPiece (C : Addr) : Sp := fun vs H Q _ => ∃ (x dx : Addr) (y0 : V) (y1 : Addr) (y2 : Addr) (y3 : Addr) (l1 : List V) (l2 : List V) (l3 : List V), vs = [.ref x, y0, .ref y1, .ref y2, .ref y3] ∧ H x = some (.ins C dx []) ∧ H y1 = some (.lst l1) ∧ H y2 = some (.lst l2) ∧ H y3 = some (.lst l3) ∧ ∀ (H' : Hp) (z1 : Addr) (z2 : Addr) (z3 : Addr), SameD x H H' → H' x = some (.ins C dx [("name", y0), ("params", .ref z1), ("ways", .ref z2), ("steps", .ref z3)]) → H' z1 = some (.lst l1) → H z1 = none → H' z2 = some (.lst l2) → H z2 = none → H' z3 = some (.lst l3) → H z3 = none → Q .non H'
abbrev sPieceI : Stmt := inClass (top 11) 0
theorem scPieceI : FnScope ["self", "name", "params", "ways", "steps"] ["self", "name", "params", "ways", "steps"] (defScope sPieceI) := ⟨rfl, rfl, rfl, by decide +kernel, rfl, by decide +kernel, by decide +kernel⟩
set_option maxHeartbeats 4000000 in
theorem ok_PieceI {g C : Addr} {gd : FuncData} (F : Fun K "__init__" "Piece.__init__" sPieceI g gd) (ml : mg "list" = none) (cl : Cls K C) (n0 : NoAttr K C "name") (n1 : NoAttr K C "params") (n2 : NoAttr K C "ways") (n3 : NoAttr K C "steps") : FnOk P w K mg base CX0 1 g gd ["self", "name", "params", "ways", "steps"] (spNPiece C) := by
  refine F.ok scPieceI (fun vs H Q E h => ?_) (fun cdv A outer s H vs Q E hr h => ?_)
  · obtain ⟨x, dx, y0, y1, y2, y3, l1, l2, l3, rfl, _⟩ := h
    rfl
  · obtain ⟨x, dx, y0, y1, y2, y3, l1, l2, l3, rfl, hx, h1, h2, h3, q⟩ := h
    refine ⟨_, pss_cons (ps_fld (pv 0) (pv 1) rfl) (pss_cons (ps_fld (pv 0) (pe_callTy call_list_of (by rfl) ml boot_list (pa_cons (pv 2) pa_nil)) rfl) (pss_cons (ps_fld (pv 0) (pe_callTy call_list_of (by rfl) ml boot_list (pa_cons (pv 3) pa_nil)) rfl) (pss_one (ps_fld (pv 0) (pe_callTy call_list_of (by rfl) ml boot_list (pa_cons (pv 4) pa_nil)) rfl)))), ?_⟩
    have s0 : SameD x H H := SameD.refl x H
    refine ⟨_, rfl, _, rfl, x, C, dx, _, rfl, hx, cl, n0, by show 0 < 1000; decide, ?_⟩
    rw [show putF ("name" : Str) y0 [] = [(("name" : Str), y0)] from rfl]
    have u1 := SameD.upd (o := .ins C dx [(("name" : Str), y0)]) s0
    refine ⟨_, rfl, y1, l1, rfl, .inl (SqL.of (u1 y1 _ (ne_of h1 hx (by intro z; cases z)) h1)), fun z1 hz1 => ?_⟩
    have nz1 : z1 ≠ x := fun z => by rw [z] at hz1; rw [upd_same] at hz1; cases hz1
    have fz1 : H z1 = none := by
      cases e : H z1 with
      | none => rfl
      | some o => exact absurd (u1 z1 o nz1 e) (by rw [hz1]; simp)
    have t2 := u1.trans (same_new (o := .lst l1) (Same.refl _) hz1).toD
    refine ⟨_, rfl, x, C, dx, _, rfl, (by rw [upd_ne (Ne.symm nz1)]; exact upd_same), cl, n1, by show 1 < 1000; decide, ?_⟩
    rw [show putF ("params" : Str) (V.ref z1) [(("name" : Str), y0)] = [(("name" : Str), y0), (("params" : Str), V.ref z1)] from putF_new (fs := [(("name" : Str), y0)]) (by show ("params" : Str) ∉ (["name"] : List Str); decide)]
    have u2 := SameD.upd (o := .ins C dx [(("name" : Str), y0), (("params" : Str), V.ref z1)]) t2
    refine ⟨_, rfl, y2, l2, rfl, .inl (SqL.of (u2 y2 _ (ne_of h2 hx (by intro z; cases z)) h2)), fun z2 hz2 => ?_⟩
    have nz2 : z2 ≠ x := fun z => by rw [z] at hz2; rw [upd_same] at hz2; cases hz2
    have fz2 : H z2 = none := by
      cases e : H z2 with
      | none => rfl
      | some o => exact absurd (u2 z2 o nz2 e) (by rw [hz2]; simp)
    have n1_2 : z1 ≠ z2 := fun z => by rw [← z] at hz2; rw [upd_ne nz1, upd_same] at hz2; cases hz2
    have t3 := u2.trans (same_new (o := .lst l2) (Same.refl _) hz2).toD
    refine ⟨_, rfl, x, C, dx, _, rfl, (by rw [upd_ne (Ne.symm nz2)]; exact upd_same), cl, n2, by show 2 < 1000; decide, ?_⟩
    rw [show putF ("ways" : Str) (V.ref z2) [(("name" : Str), y0), (("params" : Str), V.ref z1)] = [(("name" : Str), y0), (("params" : Str), V.ref z1), (("ways" : Str), V.ref z2)] from putF_new (fs := [(("name" : Str), y0), (("params" : Str), V.ref z1)]) (by show ("ways" : Str) ∉ (["name", "params"] : List Str); decide)]
    have u3 := SameD.upd (o := .ins C dx [(("name" : Str), y0), (("params" : Str), V.ref z1), (("ways" : Str), V.ref z2)]) t3
    refine ⟨_, rfl, y3, l3, rfl, .inl (SqL.of (u3 y3 _ (ne_of h3 hx (by intro z; cases z)) h3)), fun z3 hz3 => ?_⟩
    have nz3 : z3 ≠ x := fun z => by rw [z] at hz3; rw [upd_same] at hz3; cases hz3
    have fz3 : H z3 = none := by
      cases e : H z3 with
      | none => rfl
      | some o => exact absurd (u3 z3 o nz3 e) (by rw [hz3]; simp)
    have n1_3 : z1 ≠ z3 := fun z => by rw [← z] at hz3; rw [upd_ne nz1, upd_ne n1_2, upd_ne nz1, upd_same] at hz3; cases hz3
    have n2_3 : z2 ≠ z3 := fun z => by rw [← z] at hz3; rw [upd_ne nz2, upd_same] at hz3; cases hz3
    have t4 := u3.trans (same_new (o := .lst l3) (Same.refl _) hz3).toD
    refine ⟨_, rfl, x, C, dx, _, rfl, (by rw [upd_ne (Ne.symm nz3)]; exact upd_same), cl, n3, by show 3 < 1000; decide, ?_⟩
    rw [show putF ("steps" : Str) (V.ref z3) [(("name" : Str), y0), (("params" : Str), V.ref z1), (("ways" : Str), V.ref z2)] = [(("name" : Str), y0), (("params" : Str), V.ref z1), (("ways" : Str), V.ref z2), (("steps" : Str), V.ref z3)] from putF_new (fs := [(("name" : Str), y0), (("params" : Str), V.ref z1), (("ways" : Str), V.ref z2)]) (by show ("steps" : Str) ∉ (["name", "params", "ways"] : List Str); decide)]
    have u4 := SameD.upd (o := .ins C dx [(("name" : Str), y0), (("params" : Str), V.ref z1), (("ways" : Str), V.ref z2), (("steps" : Str), V.ref z3)]) t4
    exact q _ z1 z2 z3 u4 upd_same (by rw [upd_ne nz1, upd_ne n1_3, upd_ne nz1, upd_ne n1_2, upd_ne nz1, upd_same]) fz1 (by rw [upd_ne nz2, upd_ne n2_3, upd_ne nz2, upd_same]) fz2 (by rw [upd_ne nz3, upd_same]) fz3
def spNCode (C : Addr) : Sp := fun vs H Q _ => ∃ (x dx : Addr) (y0 : Addr) (l0 : List V), vs = [.ref x, .ref y0] ∧ H x = some (.ins C dx []) ∧ H y0 = some (.lst l0) ∧ ∀ (H' : Hp) (z0 : Addr), SameD x H H' → H' x = some (.ins C dx [("pieces", .ref z0)]) → H' z0 = some (.lst l0) → H z0 = none → Q .non H'
abbrev sCodeI : Stmt := inClass (top 12) 0
theorem scCodeI : FnScope ["self", "pieces"] ["self", "pieces"] (defScope sCodeI) := ⟨rfl, rfl, rfl, by decide +kernel, rfl, by decide +kernel, by decide +kernel⟩
set_option maxHeartbeats 4000000 in
theorem ok_CodeI {g C : Addr} {gd : FuncData} (F : Fun K "__init__" "Code.__init__" sCodeI g gd) (ml : mg "list" = none) (cl : Cls K C) (n0 : NoAttr K C "pieces") : FnOk P w K mg base CX0 1 g gd ["self", "pieces"] (spNCode C) := by
  refine F.ok scCodeI (fun vs H Q E h => ?_) (fun cdv A outer s H vs Q E hr h => ?_)
  · obtain ⟨x, dx, y0, l0, rfl, _⟩ := h
    rfl
  · obtain ⟨x, dx, y0, l0, rfl, hx, h0, q⟩ := h
    refine ⟨_, pss_one (ps_fld (pv 0) (pe_callTy call_list_of (by rfl) ml boot_list (pa_cons (pv 1) pa_nil)) rfl), ?_⟩
    have s0 : SameD x H H := SameD.refl x H
    refine ⟨_, rfl, y0, l0, rfl, .inl (SqL.of (s0 y0 _ (ne_of h0 hx (by intro z; cases z)) h0)), fun z0 hz0 => ?_⟩
    have nz0 : z0 ≠ x := fun z => by rw [z] at hz0; rw [hx] at hz0; cases hz0
    have fz0 : H z0 = none := by
      cases e : H z0 with
      | none => rfl
      | some o => exact absurd (s0 z0 o nz0 e) (by rw [hz0]; simp)
    have t1 := s0.trans (same_new (o := .lst l0) (Same.refl _) hz0).toD
    refine ⟨_, rfl, x, C, dx, _, rfl, (by rw [upd_ne (Ne.symm nz0)]; exact hx), cl, n0, by show 0 < 1000; decide, ?_⟩
    rw [show putF ("pieces" : Str) (V.ref z0) [] = [(("pieces" : Str), V.ref z0)] from rfl]
    have u1 := SameD.upd (o := .ins C dx [(("pieces" : Str), V.ref z0)]) t1
    exact q _ z0 u1 upd_same (by rw [upd_ne nz0, upd_same]) fz0
end
end K45
set_option maxRecDepth 100000
namespace K45
open PySem L2
abbrev sSpots : Stmt := top 20
abbrev sOver : Stmt := top 21
abbrev sLed : Stmt := top 22
structure NA (K : PySem.W.Frag) (c : Cs) : Prop where
  l_mark : NoAttr K c.label "mark"
  l_label : NoAttr K c.label "label"
  j_mark : NoAttr K c.jump "mark"
  j_label : NoAttr K c.jump "label"
  r_mark : NoAttr K c.ret "mark"
  r_way : NoAttr K c.ret "way"
  r_atoms : NoAttr K c.ret "atoms"
  t_mark : NoAttr K c.tell "mark"
  t_atom : NoAttr K c.tell "atom"
  m_mark : NoAttr K c.move "mark"
  m_goal : NoAttr K c.move "goal"
  m_atom : NoAttr K c.move "atom"
  s_mark : NoAttr K c.summon "mark"
  s_callee : NoAttr K c.summon "callee"
  s_atoms : NoAttr K c.summon "atoms"
  s_arms : NoAttr K c.summon "arms"
  h_mark : NoAttr K c.handon "mark"
  h_callee : NoAttr K c.handon "callee"
  h_atoms : NoAttr K c.handon "atoms"
  h_ways : NoAttr K c.handon "ways"
  p_name : NoAttr K c.piece "name"
  p_params : NoAttr K c.piece "params"
  p_ways : NoAttr K c.piece "ways"
  p_steps : NoAttr K c.piece "steps"
  c_pieces : NoAttr K c.code "pieces"
  pcl : Cls K c.piece
  ccl : Cls K c.code
def spSpots (c : Cs) : Sp := fun vs H Q _ => ∃ (ls : Addr) (xs : List V) (ss : Sts), vs = [.ref ls] ∧ H ls = some (.lst xs) ∧ StepsAt c H xs ss ∧ ss.length ≤ 100 ∧ ∀ d H', Same H H' → H d = none → SpotsAt H' d ss ss.length → Q (.ref d) H'
def spOver (c : Cs) : Sp := fun vs H Q _ => ∃ (ls : Addr) (xs : List V) (ss : Sts) (i : Nat), vs = [.ref ls, .int (i : Nat)] ∧ H ls = some (.lst xs) ∧ StepsAt c H xs ss ∧ ss.length ≤ 100 ∧ i ≤ ss.length ∧
  ∀ (o : Nat) H', Same H H' → o ≤ ss.length → (∃ t, it (kds ss) (spot ss) t i = some o) → labAt ss o = none → Q (.int (o : Nat)) H'
def spLed (c : Cs) : Sp := fun vs H Q _ => ∃ (ls d : Addr) (xs : List V) (ss : Sts) (l : Str), vs = [.ref ls, .ref d, .str l] ∧ H ls = some (.lst xs) ∧ StepsAt c H xs ss ∧ Good ss ∧ SpotsAt H d ss ss.length ∧ (spotO ss l).isSome = true ∧
  ∀ (t : Addr) (l' : Str) (v : V) H', Same H H' → H' t = some (.tup [.str l', v]) → Told (kds ss) (spot ss) (fun j => (xs[j]?).getD .non) .non (spot ss l) v → Q (.ref t) H'
section
variable {P : Program} {w : World} {K : PySem.W.Frag} {mg : Str → Option Value} {base : Heap} {c : Cs}
theorem scSpots : FnScope ["steps", "spots", "spot", "step"] ["steps"] (defScope sSpots) := ⟨rfl, rfl, rfl, by decide +kernel, rfl, by decide +kernel, by decide +kernel⟩
theorem scOver : FnScope ["steps", "spot"] ["steps", "spot"] (defScope sOver) := ⟨rfl, rfl, rfl, by decide +kernel, rfl, by decide +kernel, by decide +kernel⟩
theorem scLed : FnScope ["steps", "spots", "label", "seen", "spot", "step"] ["steps", "spots", "label"] (defScope sLed) := ⟨rfl, rfl, rfl, by decide +kernel, rfl, by decide +kernel, by decide +kernel⟩
def labS : Stp → Option Str
  | .label l => some l
  | _ => none
theorem labAt_of {ss : Sts} {i : Nat} {k : Int} {s : Stp} (h : ss[i]? = some (k, s)) : labAt ss i = labS s := by
  unfold labAt
  rw [h]
  cases s <;> rfl
theorem isL_lab {ss : Sts} {i : Nat} {k : Int} {s : Stp} (h : ss[i]? = some (k, s)) (hl : isL s = true) : ∃ l, labAt ss i = some l := by
  rw [labAt_of h]
  cases s with
  | label l => exact ⟨l, rfl⟩
  | _ => cases hl
theorem isL_no {ss : Sts} {i : Nat} {k : Int} {s : Stp} (h : ss[i]? = some (k, s)) (hl : isL s = false) : labAt ss i = none := by
  rw [labAt_of h]
  cases s with
  | label l => cases hl
  | _ => rfl
set_option maxHeartbeats 4000000 in
theorem ok_spots {g : Addr} {gd : FuncData} (F : Fun K "label_spots" "label_spots" sSpots g gd) (T : Isi K mg c) (N : NA K c) : FnOk P w K mg base CX0 1 g gd ["steps"] (spSpots c) := by
  refine F.ok scSpots (fun vs H Q E h => ?_) (fun cdv A outer s H vs Q E hr h => ?_)
  · obtain ⟨ls, xs, ss, rfl, _⟩ := h
    rfl
  · obtain ⟨ls, xs, ss, rfl, hl, hs, hn, q⟩ := h
    have hu := hu_of hr
    refine ⟨_, pss_cons (ps_set (i := 1) scSpots.nd rfl (Or.inl rfl) pe_dnewK)
      (pss_cons (ps_for PassesOwn.never rfl (pi_enum (by rfl) T.enu (pa_cons (pv 0) pa_nil)) (pg_tup rfl (pgs_cons (pg_name (i := 2) scSpots.nd rfl (Or.inl rfl)) (pgs_cons (pg_name (i := 3) scSpots.nd rfl (Or.inl rfl)) pgs_nil)))
        (pss_one (ps_if (pt_val (pe_callB call_isC (by rfl) T.isn boot_isi (pa_cons (pv 3) (pa_cons (pe_glob (v := .ref c.label) (by rfl) T.gl rfl) pa_nil))))
          (pss_one (ps_dput hu (pv 1) (pe_fld (pv 3) rfl) (pv 2) rfl)) pss_nil)))
      (pss_one (ps_ret (pv 1)))), ?_⟩
    refine fun d hd => ?_
    have s0 : Same H (upd H d (.dK [])) := same_new (Same.refl H) hd
    refine ⟨_, rfl, ls, rfl, ⟨_, SqL.of (s0 _ _ hl)⟩, for_enum (K := K) (a := ls) (xs := xs) (fun i σ H2 => (∃ x2 x3, σ = [some (.ref ls), some (.ref d), x2, x3]) ∧ Same H H2 ∧ SpotsAt H2 d ss i) ⟨⟨_, _, rfl⟩, s0, ⟨[], upd_same, Nat.le_refl _, fun l => rfl⟩⟩ (fun i σ H2 _ ⟨_, s3, _⟩ => SqL.of (s3 _ _ hl)) ?_ ?_⟩
    · rintro i v σ H1 t hx ⟨⟨x2, x3, rfl⟩, s1, ⟨kvs, hk, hkl, hkv⟩⟩ ht
      obtain ⟨k, st, hi, hst⟩ := hs.get hx
      have hil : i < ss.length := (List.getElem?_eq_some_iff.mp hi).1
      have s2' : Same H1 (upd H1 t (.tup [.int i, v])) := same_new (Same.refl H1) ht
      have s2 := s1.trans s2'
      have hk2 := s2' _ _ hk
      generalize hH2 : upd H1 t (.tup [.int i, v]) = H2 at s2' s2 hk2
      have ht2 : H2 t = some (.tup [.int i, v]) := by rw [← hH2]; exact upd_same
      have hst2 := hst.same s2
      obtain ⟨ty, h1, h2⟩ := T.isL hst2
      refine ⟨t, _, rfl, SqT.of ht2, rfl, _, _, rfl, _, _, rfl, rfl, ?_⟩
      refine ⟨_, rfl, _, ty, c.label, isL st, rfl, h1, h2, _, rfl, iteB (fun b => ?_) (fun b => ?_)⟩
      · cases hst2 with
        | @label a dx m k l h hm =>
          have el' : labAt ss i = some l := labAt_of hi
          refine ⟨_, rfl, _, rfl, _, rfl, a, c.label, dx, _, _, rfl, h, T.tl.cl, N.l_label, rfl, d, _, rfl, DPut.k (k := Sum.inr l) hk2 (smallT _ (by omega)), ?_⟩
          refine ⟨⟨_, _, rfl⟩, fun b o hb => ?_, ⟨_, upd_same, ?_, fun l' => ?_⟩⟩
          · rw [upd_ne (ne_of_none hb hd)]
            exact s2 _ _ hb
          · have := length_putK kvs (Sum.inr l) (V.int (i : Nat))
            omega
          · rw [valV_put]
            by_cases e : l' = l
            · subst e
              rw [if_pos rfl]
              unfold spotN
              rw [if_pos el']
              rfl
            · rw [if_neg (fun z => e (Sum.inr.inj z)), hkv l']
              conv => rhs; unfold spotN
              rw [if_neg (fun z => e (by rw [el'] at z; exact (Option.some.inj z).symm))]
        | _ => cases b
      · have el := isL_no hi b
        exact ⟨⟨_, _, rfl⟩, s2, ⟨kvs, hk2, by omega, fun l' => by rw [hkv l']; conv => rhs; unfold spotN; rw [el, if_neg (by simp)]⟩⟩
    · rintro σ H1 ⟨⟨x2, x3, rfl⟩, s1, hk⟩
      rw [hs.len] at hk
      exact ⟨_, rfl, q d H1 s1 hd hk⟩
theorem at_nat {xs : List V} {i : Nat} {v : V} (h : xs[i]? = some v) : atI xs ((i : Nat) : Int) = some v := atI_nat h
theorem nxt_lab {ss : Sts} {i : Nat} {l : Str} (h : labAt ss i = some l) : nxt (kds ss) (spot ss) i = some (i + 1) := by
  unfold nxt
  rw [labAt_kd.mp h]
set_option maxHeartbeats 4000000 in
theorem ok_over {g : Addr} {gd : FuncData} (F : Fun K "over_labels" "over_labels" sOver g gd) (T : Isi K mg c) : FnOk P w K mg base CX0 1 g gd ["steps", "spot"] (spOver c) := by
  refine F.ok scOver (fun vs H Q E h => ?_) (fun cdv A outer s H vs Q E hr h => ?_)
  · obtain ⟨ls, xs, ss, i, rfl, _⟩ := h
    rfl
  · obtain ⟨ls, xs, ss, i0, rfl, hl, hs, hn, hi0, q⟩ := h
    refine ⟨_, pss_cons (ps_while PassesOwn.never (PW.pt (pw_and (pt_cmpR op_lt (pv 1) (pe_callB call_len_seq (by rfl) T.len PySem.boot_len (pa_cons (pv 0) pa_nil)) (nomark _))
        (pw_and1 (pt_val (pe_callB call_isC (by rfl) T.isn boot_isi (pa_cons (pe_ix ix_list (pv 0) (pv 1) (fun _ _ => rfl)) (pa_cons (pe_glob (v := .ref c.label) (by rfl) T.gl rfl) pa_nil)))))))
        (pss_one (ps_set (i := 1) scOver.nd rfl (Or.inl rfl) (pe_op op_add (pv 1) pe_int))))
      (pss_one (ps_ret (pv 1))), ?_⟩
    refine ⟨fun m σ H1 => ∃ o : Nat, σ = [some (.ref ls), some (.int (o : Nat))] ∧ Same H H1 ∧ o ≤ ss.length ∧ m = ss.length - o ∧ ∃ t, it (kds ss) (spot ss) t i0 = some o, ⟨_, i0, rfl, Same.refl H, hi0, rfl, 0, rfl⟩, ?_⟩
    rintro m σ H1 ⟨o, rfl, s1, ho, rfl, t, ht⟩
    have hl1 := s1 _ _ hl
    refine ⟨_, rfl, _, rfl, ls, _, rfl, .inl (SqL.of hl1), _, _, rfl, rfl, _, rfl, iteD (fun e => ?_) (fun e => ?_)⟩
    · rw [hs.len] at e
      have hlt : o < xs.length := by rw [hs.len]; omega
      have hx : xs[o]? = some xs[o] := List.getElem?_eq_getElem hlt
      obtain ⟨k, st, hi, hst⟩ := hs.get hx
      obtain ⟨ty, h1, h2⟩ := T.isL (hst.same s1)
      refine ⟨_, rfl, _, rfl, ls, _, _, _, rfl, rfl, SqL.of hl1, at_nat hx, _, ty, c.label, isL st, rfl, h1, h2, _, rfl, iteB (fun b => ?_) (fun b => ?_)⟩
      · obtain ⟨l, el⟩ := isL_lab hi b
        refine ⟨fun σ' H' => ∃ o' : Nat, σ' = [some (.ref ls), some (.int (o' : Nat))] ∧ Same H H' ∧ o' ≤ ss.length ∧ ss.length - o' = ss.length - o - 1 ∧ ∃ t, it (kds ss) (spot ss) t i0 = some o', fun σ' H' ⟨o', a1, a2, a3, a4, a5⟩ => ⟨ss.length - o - 1, by omega, o', a1, a2, a3, a4.symm, a5⟩, ?_⟩
        refine ⟨_, rfl, _, _, rfl, rfl, o + 1, rfl, s1, by omega, by omega, t + 1, it_trans ht (it_one (nxt_lab el))⟩
      · exact ⟨_, rfl, q o H1 s1 ho ⟨t, ht⟩ (isL_no hi b)⟩
    · rw [hs.len] at e
      have e2 : o = ss.length := by omega
      refine ⟨_, rfl, q o H1 s1 ho ⟨t, ht⟩ ?_⟩
      unfold labAt
      rw [List.getElem?_eq_none (by omega)]
theorem nxt_end {ss : Sts} {o : Nat} (h : ss.length ≤ o) : nxt (kds ss) (spot ss) o = none := by
  unfold nxt
  rw [List.getElem?_eq_none (by rw [kds_len]; exact h)]
def nxtS (ss : Sts) (o : Nat) : Stp → Option Nat
  | .label _ => some (o + 1)
  | .jump l => some (spot ss l)
  | _ => none
theorem nxt_at {ss : Sts} {o : Nat} {k : Int} {s : Stp} (h : ss[o]? = some (k, s)) : nxt (kds ss) (spot ss) o = nxtS ss o s := by
  unfold nxt kds
  rw [List.getElem?_map, h]
  cases s <;> rfl
theorem spot_le {ss : Sts} {l : Str} (h : (spotO ss l).isSome = true) : spot ss l < ss.length := by
  obtain ⟨i, hi⟩ := Option.isSome_iff_exists.mp h
  have := (spotN_some hi).2
  unfold spot
  rw [hi]
  exact this
set_option maxHeartbeats 8000000 in
theorem ok_led {g : Addr} {gd : FuncData} (F : Fun K "led" "led" sLed g gd) (T : Isi K mg c) (N : NA K c) (O : One P w K mg base 1 "over_labels" ["steps", "spot"] (spOver c)) : FnOk P w K mg base CX0 2 g gd ["steps", "spots", "label"] (spLed c) := by
  obtain ⟨g1, d1, m1, k1, b1, G1⟩ := O.is
  refine F.ok scLed (fun vs H Q E h => ?_) (fun cdv A outer s H vs Q E hr h => ?_)
  · obtain ⟨ls, d, xs, ss, l, rfl, _⟩ := h
    rfl
  · obtain ⟨ls, d, xs, ss, l0, rfl, hl, hs, hg, hd, hl0, q⟩ := h
    have hu := hu_of hr
    have hr1 : Room 1 _ := hr.mono (by decide)
    refine ⟨_, pss_cons (ps_set (i := 3) scLed.nd rfl (Or.inl rfl) pe_dnewK)
      (pss_cons (ps_while PassesOwn.never (pt_cmp (pc_dnotin hu (pv 2) (pv 3)))
        (pss_cons (ps_dput hu (pv 3) (pv 2) pe_bl rfl)
        (pss_cons (ps_set (i := 4) scLed.nd rfl (Or.inl rfl) (pe_call G1 hr1 (by rfl) m1 k1 b1 .nil pass0 (pa_cons (pv 0) (pa_cons (pe_dget hu (pv 1) (pv 2) (fun _ _ => rfl)) pa_nil))))
        (pss_cons (ps_if (pt_cmpR op_eq (pv 4) (pe_callB call_len_seq (by rfl) T.len PySem.boot_len (pa_cons (pv 0) pa_nil)) (nomark _)) (pss_one (ps_ret (pe_tup (pa_cons (pv 2) (pa_cons pe_non pa_nil))))) pss_nil)
        (pss_cons (ps_set (i := 5) scLed.nd rfl (Or.inl rfl) (pe_ix ix_list (pv 0) (pv 4) (fun _ _ => rfl)))
        (pss_cons (ps_if (pt_not (pt_val (pe_callB call_isC (by rfl) T.isn boot_isi (pa_cons (pv 5) (pa_cons (pe_glob (v := .ref c.jump) (by rfl) T.gj rfl) pa_nil))))) (pss_one (ps_ret (pe_tup (pa_cons (pv 2) (pa_cons (pv 5) pa_nil))))) pss_nil)
        (pss_one (ps_set (i := 2) scLed.nd rfl (Or.inl rfl) (pe_fld (pv 5) rfl)))))))))
      (pss_one (ps_ret (pe_tup (pa_cons (pv 2) (pa_cons pe_non pa_nil)))))), ?_⟩
    refine fun n hn => ?_
    have s0 : Same H (upd H n (.dK [])) := same_new (Same.refl H) hn
    have few : ∀ {seen : List Str}, seen.Nodup → (∀ x ∈ seen, (spotO ss x).isSome = true) → seen.length ≤ ss.length := fun nd h => by
      have z := seen_few (ks := kds ss) (sp := spot ss) nd (fun x hx => by
        obtain ⟨i, hi⟩ := Option.isSome_iff_exists.mp (h x hx)
        exact spot_lab hi)
      rwa [kds_len] at z
    refine ⟨fun m σ H1 => ∃ (l : Str) (seen : List Str) (kvs : List (Key × V)) (x4 x5 : Option V), σ = [some (.ref ls), some (.ref d), some (.str l), some (.ref n), x4, x5] ∧ Same H H1 ∧ H1 n = some (.dK kvs) ∧ kvs.length = seen.length ∧ (∀ l' : Str, (valV kvs (Sum.inr l')).isSome = decide (l' ∈ seen)) ∧ seen.Nodup ∧
        (∀ x ∈ seen, (spotO ss x).isSome = true) ∧ (spotO ss l).isSome = true ∧ (∃ t, it (kds ss) (spot ss) t (spot ss l0) = some (spot ss l)) ∧ (∀ x ∈ seen, ∃ t, 0 < t ∧ it (kds ss) (spot ss) t (spot ss x) = some (spot ss l)) ∧ m + seen.length = ss.length + 1,
      ⟨ss.length + 1, l0, [], [], _, _, rfl, s0, upd_same, rfl, fun l' => rfl, List.nodup_nil, fun x hx => (by cases hx), hl0, ⟨0, rfl⟩, fun x hx => (by cases hx), rfl⟩, ?_⟩
    rintro m σ H1 ⟨l, seen, kvs, x4, x5, rfl, s1, hk, hkl, hkv, nd, hsn, hlo, ⟨t, ht⟩, hcy, hm⟩
    refine ⟨_, rfl, _, rfl, n, _, rfl, DGet.k (k := Sum.inr l) hk, ?_⟩
    refine ⟨_, rfl, ?_⟩
    rw [hkv l]
    refine iteN (fun e => ?_) (fun e => ?_)
    · -- not yet seen
      have hnot : l ∉ seen := of_decide_eq_false e
      have nd' : (l :: seen).Nodup := List.nodup_cons.mpr ⟨hnot, nd⟩
      have hf := few nd' (fun x hx => by
        rcases List.mem_cons.mp hx with rfl | hx
        · exact hlo
        · exact hsn x hx)
      rw [List.length_cons] at hf
      have hlen := hg.len
      refine ⟨fun σ' H' => ∃ (l : Str) (seen' : List Str) (kvs : List (Key × V)) (x4 x5 : Option V), σ' = [some (.ref ls), some (.ref d), some (.str l), some (.ref n), x4, x5] ∧ Same H H' ∧ H' n = some (.dK kvs) ∧ kvs.length = seen'.length ∧ (∀ l' : Str, (valV kvs (Sum.inr l')).isSome = decide (l' ∈ seen')) ∧ seen'.Nodup ∧
        (∀ x ∈ seen', (spotO ss x).isSome = true) ∧ (spotO ss l).isSome = true ∧ (∃ t, it (kds ss) (spot ss) t (spot ss l0) = some (spot ss l)) ∧ (∀ x ∈ seen', ∃ t, 0 < t ∧ it (kds ss) (spot ss) t (spot ss x) = some (spot ss l)) ∧ seen'.length = seen.length + 1,
        fun σ' H' ⟨l, sn, kv, y4, y5, a1, a2, a3, a4, a5, a6, a7, a8, a9, a10, a11⟩ => ⟨m - 1, by omega, l, sn, kv, y4, y5, a1, a2, a3, a4, a5, a6, a7, a8, a9, a10, by omega⟩, ?_⟩
      refine ⟨_, rfl, _, rfl, n, _, rfl, DPut.k (k := Sum.inr l) hk (smallT _ (by omega)), ?_⟩
      have hnone : valV kvs (Sum.inr l) = none := by
        have z := hkv l
        rw [e] at z
        cases hv : valV kvs (Sum.inr l) with
        | none => rfl
        | some y => rw [hv] at z; cases z
      have ek : putK kvs (Sum.inr l) (V.bl true) = kvs ++ [(Sum.inr l, V.bl true)] := putK_new _ hnone
      have s2 : Same H (upd H1 n (.dK (putK kvs (Sum.inr l) (V.bl true)))) := fun b o hb => by
        rw [upd_ne (ne_of_none hb hn)]
        exact s1 _ _ hb
      have hk2 : (upd H1 n (.dK (putK kvs (Sum.inr l) (V.bl true)))) n = some (.dK (putK kvs (Sum.inr l) (V.bl true))) := upd_same
      have hkv2 : ∀ l' : Str, (valV (putK kvs (Sum.inr l) (V.bl true)) (Sum.inr l')).isSome = decide (l' ∈ l :: seen) := fun l' => by
        rw [valV_put]
        by_cases e' : l' = l
        · subst e'
          rw [if_pos rfl]
          exact (decide_eq_true (List.mem_cons_self ..)).symm
        · rw [if_neg (fun z => e' (Sum.inr.inj z)), hkv l', Bool.eq_iff_iff, decide_eq_true_iff, decide_eq_true_iff, List.mem_cons]
          exact ⟨fun h => .inr h, fun h => h.resolve_left e'⟩
      have hkl2 : (putK kvs (Sum.inr l) (V.bl true)).length = (l :: seen).length := by
        rw [ek, List.length_append, hkl]
        rfl
      generalize upd H1 n (.dK (putK kvs (Sum.inr l) (V.bl true))) = H2 at s2 hk2
      generalize putK kvs (Sum.inr l) (V.bl true) = kvs2 at hk2 hkv2 hkl2
      refine ⟨_, rfl, _, rfl, _, rfl, d, _, rfl, (hd.same s2).get hlo, ?_⟩
      refine ⟨ls, xs, ss, spot ss l, rfl, s2 _ _ hl, hs.same s2, hg.len, Nat.le_of_lt (spot_le hlo), fun o H3 s3' ho ⟨u, hu3⟩ hno => ?_⟩
      have s3 := s2.trans s3'
      have hto := it_trans ht hu3
      have hl3 := s3 _ _ hl
      refine ⟨_, rfl, _, rfl, ls, _, rfl, .inl (SqL.of hl3), rfl, _, rfl, iteI (fun e3 => ?_) (fun e3 => ?_)⟩
      · -- the end of the steps
        rw [hs.len] at e3
        have e4 : o = ss.length := by omega
        refine ⟨_, rfl, small 2 (by decide), fun tt htt => ?_⟩
        refine q tt l .non _ (same_new s3 htt) upd_same ?_
        have z := told_end (f := fun j => (xs[j]?).getD V.non) (d := V.non) hto (nxt_end (by omega))
        have e5 : (xs[o]?).getD V.non = V.non := by rw [List.getElem?_eq_none (by rw [hs.len]; omega)]; rfl
        rw [e5] at z
        exact z
      · rw [hs.len] at e3
        have hlt : o < xs.length := by rw [hs.len]; omega
        have hx : xs[o]? = some xs[o] := List.getElem?_eq_getElem hlt
        generalize xs[o] = v at hx
        obtain ⟨k, st, hi, hst⟩ := hs.get hx
        have hst3 := hst.same s3
        refine ⟨_, rfl, _, rfl, ls, _, _, _, rfl, rfl, SqL.of hl3, at_nat hx, ?_⟩
        obtain ⟨ty, h1, h2⟩ := T.isJ hst3
        refine ⟨_, rfl, _, ty, c.jump, isJ st, rfl, h1, h2, _, rfl, iteN (fun b => ?_) (fun b => ?_)⟩
        · -- no jump
          refine ⟨_, rfl, _, rfl, small 2 (by decide), fun tt htt => ?_⟩
          refine q tt l v _ (same_new s3 htt) upd_same ?_
          have en : nxt (kds ss) (spot ss) o = none := by
            rw [nxt_at hi]
            have el := labAt_of hi
            rw [hno] at el
            cases st with
            | label l => cases el
            | jump l => cases b
            | _ => rfl
          have z := told_end (f := fun j => (xs[j]?).getD V.non) (d := V.non) hto en
          have e5 : (xs[o]?).getD V.non = v := by rw [hx]; rfl
          rw [e5] at z
          exact z
        · -- a jump
          cases hst3 with
          | @jump a dx mk k l2 h hm =>
            have hgo := hg.jmp o k l2 hi
            have en : nxt (kds ss) (spot ss) o = some (spot ss l2) := nxt_at hi
            refine ⟨_, rfl, a, c.jump, dx, _, _, rfl, h, T.tj.cl, N.j_label, rfl, ?_⟩
            refine ⟨l2, l :: seen, kvs2, _, _, rfl, s3, s3' _ _ hk2, hkl2, hkv2, nd', fun x hx => ?_, hgo, ⟨_, it_trans hto (it_one en)⟩, fun x hx => ?_, rfl⟩
            · rcases List.mem_cons.mp hx with rfl | hx
              · exact hlo
              · exact hsn x hx
            · rcases List.mem_cons.mp hx with rfl | hx
              · exact ⟨u + 1, Nat.succ_pos _, it_trans hu3 (it_one en)⟩
              · obtain ⟨t', ht', ht2⟩ := hcy x hx
                exact ⟨t' + (u + 1), by omega, it_trans ht2 (it_trans hu3 (it_one en))⟩
          | label => cases b
          | ret => cases b
          | tell => cases b
          | move => cases b
          | summon => cases b
    · -- seen already: round
      have hin : l ∈ seen := of_decide_eq_true e
      obtain ⟨t', ht', ht2⟩ := hcy l hin
      refine ⟨_, rfl, small 2 (by decide), fun tt htt => ?_⟩
      exact q tt l .non _ (same_new s1 htt) upd_same (told_round ht ht' ht2)
end
end K45
set_option maxRecDepth 100000
namespace K45
open PySem L2
abbrev sStraight : Stmt := top 24
abbrev sHanded : Stmt := top 25
abbrev sHPiece : Stmt := top 26
abbrev sHStep : Stmt := top 27
abbrev sSWay : Stmt := top 28
def kD : Key → PyData
  | .inl i => .int i
  | .inr z => .str z
theorem dats_keys {K : PySem.W.Frag} {H : Hp} : ∀ (a : List Key), Dats K H (a.map kV) (a.map kD)
  | [] => .nil
  | .inl i :: xs => .cons (.int i) (dats_keys xs)
  | .inr z :: xs => .cons (.str z) (dats_keys xs)
theorem shaped_keys {a : List Key} (h : ∀ z ∈ a, okK z = true) : SeqAt.shaped (.list (a.map kD)) = true := by
  have h1 : ∀ a : List Key, (∀ z ∈ a, okK z = true) → PyData.canLayAll0 (a.map kD) = true ∧ PyData.depthAll (a.map kD) = 0 := by
    intro a
    induction a with
    | nil => intro _; exact ⟨by simp [PyData.canLayAll0], by simp [PyData.depthAll]⟩
    | cons x xs ih =>
      intro h
      obtain ⟨i1, i2⟩ := ih fun z hz => h z (List.mem_cons_of_mem _ hz)
      have hx := h x (List.mem_cons_self ..)
      cases x with
      | inl i => exact ⟨by simp only [List.map_cons, kD, PyData.canLayAll0, PyData.canLay0, i1, Bool.and_self], by simp only [List.map_cons, kD, PyData.depthAll, PyData.depth, i2, Nat.max_self]⟩
      | inr z =>
        have hz : PyData.strOk z = true := hx
        exact ⟨by simp only [List.map_cons, kD, PyData.canLayAll0, PyData.canLay0, i1, hz, Bool.and_self], by simp only [List.map_cons, kD, PyData.depthAll, PyData.depth, i2, Nat.max_self]⟩
  obtain ⟨i1, i2⟩ := h1 a h
  unfold SeqAt.shaped
  rw [Bool.and_eq_true]
  refine ⟨?_, ?_⟩
  · simp only [PyData.canLay0, i1]
  · simp only [PyData.depth, i2]
    decide
theorem eqv_keys : ∀ (a : List Key) (b : List Str), PyData.eqvAll (a.map kD) ((b.map Sum.inr).map kD) = decide (a = b.map Sum.inr)
  | [], [] => by simp [PyData.eqvAll]
  | [], _ :: _ => by simp [PyData.eqvAll]
  | _ :: _, [] => by simp [PyData.eqvAll]
  | x :: xs, y :: ys => by
    have e := eqv_keys xs ys
    cases x with
    | inl i =>
      simp only [List.map_cons, kD, PyData.eqvAll, PyData.eqv, Bool.false_and]
      exact (decide_eq_false (by intro z; injection z with z1 _; cases z1)).symm
    | inr z =>
      simp only [List.map_cons, kD, PyData.eqvAll, PyData.eqv, e]
      rw [Bool.eq_iff_iff]
      simp
theorem goals_kV (gs : List Str) : gs.map V.str = (gs.map (Sum.inr : Str → Key)).map kV := by
  rw [List.map_map]; rfl
def resV (ss : Sts) (gs : List Str) (j : Nat) : V := match ss[j]? with
  | some (_, .ret w ats) => if ats = gs.map Sum.inr then .int w else .non
  | _ => .non
def strsK (gs : List Str) : Prop := ∀ z ∈ gs, PyData.strOk z = true
def spSWay (c : Cs) : Sp := fun vs H Q _ => ∃ (ls d t g : Addr) (xs : List V) (ss : Sts) (l : Str) (gs : List Str), vs = [.ref ls, .ref d, .ref t] ∧ H ls = some (.lst xs) ∧ StepsAt c H xs ss ∧ Good ss ∧ SpotsAt H d ss ss.length ∧ H t = some (.tup [.str l, .ref g]) ∧ H g = some (.lst (gs.map V.str)) ∧
  (spotO ss l).isSome = true ∧ strsK gs ∧ ∀ v H', Same H H' → Told (kds ss) (spot ss) (resV ss gs) .non (spot ss l) v → Q v H'
def PieceAt (c : Cs) (H : Hp) (p ls : Addr) : Prop := ∃ dx lp lw, H p = some (.ins c.piece dx [("name", .str "z"), ("params", .ref lp), ("ways", .ref lw), ("steps", .ref ls)]) ∧ H lp = some (.lst []) ∧ H lw = some (.lst [.str "fault", .str "end", .str "w"])
theorem PieceAt.same {c : Cs} {H H' : Hp} {p ls : Addr} (s : Same H H') (h : PieceAt c H p ls) : PieceAt c H' p ls := by
  obtain ⟨dx, lp, lw, h1, h2, h3⟩ := h
  exact ⟨dx, lp, lw, s _ _ h1, s _ _ h2, s _ _ h3⟩
def spStraight (c : Cs) : Sp := fun vs H Q _ => ∃ (p ls t g : Addr) (xs : List V) (ss : Sts) (l : Str) (gs : List Str), vs = [.ref p, .ref t] ∧ PieceAt c H p ls ∧ H ls = some (.lst xs) ∧ StepsAt c H xs ss ∧ Good ss ∧ H t = some (.tup [.str l, .ref g]) ∧ H g = some (.lst (gs.map V.str)) ∧
  (spotO ss l).isSome = true ∧ strsK gs ∧ ∀ v H', Same H H' → Told (kds ss) (spot ss) (resV ss gs) .non (spot ss l) v → Q v H'
def wayOf (ss : Sts) (a : ArmT) (v : V) : Prop := match a with
  | none => v = .int (-1)
  | some (l, gs) => Told (kds ss) (spot ss) (resV ss gs) .non (spot ss l) v
inductive WaysT (ss : Sts) : List ArmT → List V → Prop where
  | nil : WaysT ss [] []
  | cons {a : ArmT} {as : List ArmT} {v : V} {vs : List V} (h : wayOf ss a v) (t : WaysT ss as vs) : WaysT ss (a :: as) (v :: vs)
theorem wayOf.unique {ss : Sts} {a : ArmT} {v u : V} (h1 : wayOf ss a v) (h2 : wayOf ss a u) : v = u := by
  cases a with
  | none => exact Eq.trans h1 (Eq.symm h2)
  | some p => exact Told.unique h1 h2
theorem WaysT.unique {ss : Sts} : ∀ {as : List ArmT} {vs us : List V}, WaysT ss as vs → WaysT ss as us → vs = us
  | _, _, _, .nil, .nil => rfl
  | _, _, _, .cons h t, .cons h' t' => by rw [wayOf.unique h h', t.unique t']
theorem WaysT.of {ss : Sts} : ∀ {as : List ArmT} {vs : List V}, vs.length = as.length → (∀ (i : Nat) (v : V) (a : ArmT), vs[i]? = some v → as[i]? = some a → wayOf ss a v) → WaysT ss as vs
  | [], [], _, _ => .nil
  | a :: as, v :: vs, e, h => .cons (h 0 v a rfl rfl) (WaysT.of (by simpa using e) fun i v' a' h1 h2 => h (i + 1) v' a' h1 h2)
theorem WaysT.len {ss : Sts} : ∀ {as : List ArmT} {vs : List V}, WaysT ss as vs → vs.length = as.length
  | _, _, .nil => rfl
  | _, _, .cons _ t => by rw [List.length_cons, List.length_cons, t.len]
theorem resV_flat {ss : Sts} {gs : List Str} {j : Nat} : resV ss gs j = .non ∨ ∃ i, resV ss gs j = .int i := by
  unfold resV
  split
  · split
    · exact .inr ⟨_, rfl⟩
    · exact .inl rfl
  · exact .inl rfl
theorem told_flat {ss : Sts} {gs : List Str} {i : Nat} {v : V} (h : Told (kds ss) (spot ss) (resV ss gs) .non i v) : v = .non ∨ ∃ i, v = .int i := by
  rcases h with ⟨j, _, rfl⟩ | ⟨_, rfl⟩
  · exact resV_flat
  · exact .inl rfl
theorem wayOf.flat {ss : Sts} {a : ArmT} {v : V} (h : wayOf ss a v) : v = .non ∨ ∃ i, v = .int i := by
  cases a with
  | none => exact .inr ⟨_, h⟩
  | some p => exact told_flat h
theorem WaysT.flat {ss : Sts} : ∀ {as : List ArmT} {vs : List V}, WaysT ss as vs → ∀ v ∈ vs, v = .non ∨ ∃ i, v = .int i
  | _, _, .nil, v, hv => by cases hv
  | _, _, .cons h t, v, hv => by
    rcases List.mem_cons.mp hv with rfl | hv
    · exact h.flat
    · exact t.flat v hv
def HandR (c : Cs) (ss : Sts) (B : Addr → Prop) (H : Hp) (v : V) (st : Stp) (u : V) : Prop := match st with
  | .summon arms => ∃ ways, WaysT ss arms ways ∧ ((V.non ∈ ways ∧ u = v) ∨ (V.non ∉ ways ∧ ∃ a dx m g r h dh g' lw, v = .ref a ∧ H a = some (.ins c.summon dx [("mark", .ref m), ("callee", .str "z"), ("atoms", .ref g), ("arms", .ref r)]) ∧ u = .ref h ∧ B h ∧ B g' ∧ B lw ∧
      H h = some (.ins c.handon dh [("mark", .ref m), ("callee", .str "z"), ("atoms", .ref g'), ("ways", .ref lw)]) ∧ H g' = some (.lst []) ∧ H lw = some (.lst ways)))
  | _ => u = v
theorem HandR.keep {c : Cs} {ss : Sts} {B B' : Addr → Prop} {H H' : Hp} {v u : V} {st : Stp} (hB : ∀ x o, B x → H x = some o → B' x ∧ H' x = some o) (hv : ∀ a o, v = .ref a → H a = some o → H' a = some o) (h : HandR c ss B H v st u) : HandR c ss B' H' v st u := by
  cases st with
  | summon arms =>
    obtain ⟨ways, hw, h⟩ := h
    refine ⟨ways, hw, ?_⟩
    rcases h with h | ⟨h0, a, dx, m, g, r, x, dh, g', lw, e1, e2, e3, b1, b2, b3, e4, e5, e6⟩
    · exact .inl h
    · exact .inr ⟨h0, a, dx, m, g, r, x, dh, g', lw, e1, hv _ _ e1 e2, e3, (hB _ _ b1 e4).1, (hB _ _ b2 e5).1, (hB _ _ b3 e6).1, (hB _ _ b1 e4).2, (hB _ _ b2 e5).2, (hB _ _ b3 e6).2⟩
  | _ => exact h
def spHStep (c : Cs) : Sp := fun vs H Q _ => ∃ (ls d : Addr) (xs : List V) (ss : Sts) (v : V) (i : Nat) (k : Int) (st : Stp), vs = [.ref ls, .ref d, v] ∧ H ls = some (.lst xs) ∧ StepsAt c H xs ss ∧ Good ss ∧ SpotsAt H d ss ss.length ∧ ss[i]? = some (k, st) ∧ StepAt c H v k st ∧
  ∀ u H', Same H H' → HandR c ss (fun x => H x = none) H' v st u → Q u H'
theorem inV_non {vs : List V} (hf : ∀ v ∈ vs, v = .non ∨ ∃ i, v = .int i) : inV .non vs = decide (V.non ∈ vs) := by
  unfold inV
  rw [Bool.eq_iff_iff, List.any_eq_true, decide_eq_true_iff]
  constructor
  · rintro ⟨y, hy, e⟩
    rcases hf y hy with rfl | ⟨i, rfl⟩
    · exact hy
    · simp [eqV] at e
  · intro h
    exact ⟨_, h, rfl⟩
theorem flat_all {vs : List V} (hf : ∀ v ∈ vs, v = .non ∨ ∃ i, v = .int i) : vs.all flatV = true :=
  List.all_eq_true.mpr fun v hv => by
    rcases hf v hv with rfl | ⟨i, rfl⟩ <;> rfl
theorem mk_at {H1 : Hp} {x dx b : Addr} {o o' u : HO} (hx : H1 x = none) (hd : H1 dx = none) (h : H1 b = some u) : (upd (upd H1 dx o) x o') b = some u := by
  rw [upd_ne (ne_of_none h hx), upd_ne (ne_of_none h hd)]
  exact h
section
variable {P : Program} {w : World} {K : PySem.W.Frag} {mg : Str → Option Value} {base : Heap} {c : Cs}
theorem scSWay : FnScope ["steps", "spots", "arm", "step"] ["steps", "spots", "arm"] (defScope sSWay) := ⟨rfl, rfl, rfl, by decide +kernel, rfl, by decide +kernel, by decide +kernel⟩
theorem scStraight : FnScope ["piece", "arm"] ["piece", "arm"] (defScope sStraight) := ⟨rfl, rfl, rfl, by decide +kernel, rfl, by decide +kernel, by decide +kernel⟩
theorem scHStep : FnScope ["steps", "spots", "step", "ways"] ["steps", "spots", "step"] (defScope sHStep) := ⟨rfl, rfl, rfl, by decide +kernel, rfl, by decide +kernel, by decide +kernel⟩
set_option maxHeartbeats 8000000 in
theorem ok_sway {g : Addr} {gd : FuncData} (F : Fun K "straight_way" "straight_way" sSWay g gd) (T : Isi K mg c) (N : NA K c) (O : One P w K mg base 2 "led" ["steps", "spots", "label"] (spLed c)) : FnOk P w K mg base CX0 3 g gd ["steps", "spots", "arm"] (spSWay c) := by
  obtain ⟨g1, d1, m1, k1, b1, G1⟩ := O.is
  refine F.ok scSWay (fun vs H Q E h => ?_) (fun cdv A outer s H vs Q E hr h => ?_)
  · obtain ⟨ls, d, t, g, xs, ss, l, gs, rfl, _⟩ := h
    rfl
  · obtain ⟨ls, d, t, g, xs, ss, l, gs, rfl, hl, hs, hg, hd, ht, hgs, hlo, hok, q⟩ := h
    have hr2 : Room 2 _ := hr.mono (by decide)
    refine ⟨_, pss_cons (ps_set (i := 3) scSWay.nd rfl (Or.inl rfl) (pe_ix ix_tup (pe_call G1 hr2 (by rfl) m1 k1 b1 .nil pass0 (pa_cons (pv 0) (pa_cons (pv 1) (pa_cons (pe_ix ix_tup (pv 2) pe_int (fun _ _ => rfl)) pa_nil)))) pe_int (fun _ _ => rfl)))
      (pss_one (ps_ret (pe_ifExp (PW.pt (pw_and (pt_val (pe_callB call_isC (by rfl) T.isn boot_isi (pa_cons (pv 3) (pa_cons (pe_glob (v := .ref c.ret) (by rfl) T.gr rfl) pa_nil))))
        (pw_and1 (pt_cmpR (op_eqV hr.units) (pe_fld (pv 3) rfl) (pe_ix ix_tup (pv 2) pe_int (fun _ _ => rfl)) (nomark _))))) (pe_fld (pv 3) rfl) pe_non))), ?_⟩
    refine ⟨_, rfl, _, rfl, _, rfl, t, _, _, _, rfl, rfl, SqT.of ht, rfl, ls, d, xs, ss, l, rfl, hl, hs, hg, hd, hlo, fun tt l' v H1 s1 htt told => ?_⟩
    refine ⟨tt, _, _, _, rfl, rfl, SqT.of htt, rfl, ?_⟩
    by_cases hv : v = .non
    · subst hv
      refine ⟨_, rfl, _, _, c.ret, false, rfl, .non, T.nr, _, rfl, ite_ff' rfl (iteF (q .non H1 s1 ?_))⟩
      rcases told with ⟨j, hj, e⟩ | ⟨hj, _⟩
      · refine .inl ⟨j, hj, ?_⟩
        unfold resV
        cases hsj : ss[j]? with
        | none => rfl
        | some p =>
          exfalso
          have hlt : j < xs.length := by rw [hs.len]; exact (List.getElem?_eq_some_iff.mp hsj).1
          have hx : xs[j]? = some xs[j] := List.getElem?_eq_getElem hlt
          obtain ⟨k, st, _, hst⟩ := hs.get hx
          have e0 : V.non = (xs[j]?).getD V.non := e
          rw [hx] at e0
          have e' : V.non = xs[j] := e0
          rw [← e'] at hst
          cases hst
      · exact .inr ⟨hj, rfl⟩
    · rcases told with ⟨j, hj, e⟩ | ⟨hj, e⟩
      · replace e : v = (xs[j]?).getD V.non := e
        cases hx : xs[j]? with
        | none => rw [hx] at e; exact absurd e hv
        | some y =>
          rw [hx] at e
          have e' : v = y := e
          subst e'
          obtain ⟨k, st, hi, hst⟩ := hs.get hx
          have hst1 := hst.same s1
          obtain ⟨ty, h1, h2⟩ := T.isR hst1
          have no : (∀ w a, st ≠ .ret w a) → Told (kds ss) (spot ss) (resV ss gs) .non (spot ss l) .non := fun hne => by
            refine .inl ⟨j, hj, ?_⟩
            unfold resV
            rw [hi]
            cases st with
            | ret w a => exact absurd rfl (hne w a)
            | _ => rfl
          refine ⟨_, rfl, _, ty, c.ret, isR st, rfl, h1, h2, _, rfl, iteB (fun b3 => ?_) (fun b3 => iteF (q .non H1 s1 (no fun _ _ z => by rw [z] at b3; cases b3)))⟩
          cases hst1 with
          | @ret a dx m g2 k way ats h hm hg2 =>
            refine ⟨_, rfl, a, c.ret, dx, _, _, rfl, h, T.tr.cl, N.r_atoms, rfl, _, rfl, t, _, _, _, rfl, rfl, SqT.of (s1 _ _ ht), rfl, ?_⟩
            have hgs1 := s1 _ _ hgs
            rw [goals_kV] at hgs1
            refine ⟨_, _, .lst (SqL.of hg2) (dats_keys ats), .lst (SqL.of hgs1) (dats_keys _), shaped_keys (hg.ats j k way ats hi), shaped_keys (fun z hz => ?_), _, rfl, ?_⟩
            · obtain ⟨y, hy, rfl⟩ := List.mem_map.mp hz
              exact hok y hy
            · rw [if_neg (by decide)]
              have ee : PyData.eqv (.list (ats.map kD)) (.list ((gs.map (Sum.inr : Str → Key)).map kD)) = decide (ats = gs.map Sum.inr) := by
                rw [PyData.eqv]
                exact eqv_keys ats gs
              rw [ee]
              refine iteD (fun z => ?_) (fun z => ?_)
              · refine ⟨_, rfl, a, c.ret, dx, _, _, rfl, h, T.tr.cl, N.r_way, rfl, q _ H1 s1 (.inl ⟨j, hj, ?_⟩)⟩
                unfold resV
                rw [hi]
                exact (if_pos z).symm
              · refine q _ H1 s1 (.inl ⟨j, hj, ?_⟩)
                unfold resV
                rw [hi]
                exact (if_neg z).symm
          | _ => cases b3
      · exact absurd e hv
set_option maxHeartbeats 8000000 in
theorem ok_straight {g : Addr} {gd : FuncData} (F : Fun K "straight" "straight" sStraight g gd) (T : Isi K mg c) (N : NA K c) (O1 : One P w K mg base 1 "label_spots" ["steps"] (spSpots c)) (O2 : One P w K mg base 3 "straight_way" ["steps", "spots", "arm"] (spSWay c)) :
    FnOk P w K mg base CX0 4 g gd ["piece", "arm"] (spStraight c) := by
  obtain ⟨g1, d1, m1, k1, b1, G1⟩ := O1.is
  obtain ⟨g2, d2, m2, k2, b2, G2⟩ := O2.is
  refine F.ok scStraight (fun vs H Q E h => ?_) (fun cdv A outer s H vs Q E hr h => ?_)
  · obtain ⟨p, ls, t, g, xs, ss, l, gs, rfl, _⟩ := h
    rfl
  · obtain ⟨p, ls, t, g, xs, ss, l, gs, rfl, hp, hl, hs, hg, ht, hgs, hlo, hok, q⟩ := h
    have hr1 : Room 1 _ := hr.mono (by decide)
    have hr3 : Room 3 _ := hr.mono (by decide)
    obtain ⟨dx, lp, lw, p1, p2, p3⟩ := id hp
    refine ⟨_, pss_one (ps_ret (pe_call G2 hr3 (by rfl) m2 k2 b2 .nil pass0 (pa_cons (pe_fld (pv 0) rfl) (pa_cons (pe_call G1 hr1 (by rfl) m1 k1 b1 .nil pass0 (pa_cons (pe_fld (pv 0) rfl) pa_nil)) (pa_cons (pv 1) pa_nil))))), ?_⟩
    refine ⟨_, rfl, p, c.piece, dx, _, _, rfl, p1, N.pcl, N.p_steps, rfl, _, rfl, p, c.piece, dx, _, _, rfl, p1, N.pcl, N.p_steps, rfl, ls, xs, ss, rfl, hl, hs, hg.len, fun d H1 s1 hd1 hsp => ?_⟩
    refine ⟨_, rfl, ls, d, t, g, xs, ss, l, gs, rfl, s1 _ _ hl, hs.same s1, hg, hsp, s1 _ _ ht, s1 _ _ hgs, hlo, hok, fun v H2 s2 told => q v H2 (s1.trans s2) told⟩
set_option maxHeartbeats 8000000 in
theorem ok_hstep {g : Addr} {gd : FuncData} (F : Fun K "handed_step" "handed_step" sHStep g gd) (T : Isi K mg c) (N : NA K c) (O2 : One P w K mg base 3 "straight_way" ["steps", "spots", "arm"] (spSWay c))
    (C1 : CMk P w K mg base 2 "Handon" c.handon ["self", "mark", "callee", "atoms", "ways"] (spNHandon c.handon)) : FnOk P w K mg base CX0 4 g gd ["steps", "spots", "step"] (spHStep c) := by
  obtain ⟨g2, d2, m2, k2, b2, G2⟩ := O2.is
  obtain ⟨p1, q1, n1, M1, e1, A1⟩ := C1.is
  refine F.ok scHStep (fun vs H Q E h => ?_) (fun cdv A outer s H vs Q E hr h => ?_)
  · obtain ⟨ls, d, xs, ss, v, i, k, st, rfl, _⟩ := h
    rfl
  · obtain ⟨ls, d, xs, ss, v, i, k, st, rfl, hl, hs, hg, hd, hi, hst, q⟩ := h
    have hr3 : Room 3 _ := hr.mono (by decide)
    refine ⟨_, pss_cons (ps_if (pt_not (pt_val (pe_callB call_isC (by rfl) T.isn boot_isi (pa_cons (pv 2) (pa_cons (pe_glob (v := .ref c.summon) (by rfl) T.gs rfl) pa_nil))))) (pss_one (ps_ret (pv 2))) pss_nil)
      (pss_cons (ps_setT (i0 := 3) (n := 1) (cl := [(("steps" : Str), s.heap.objs.size + 1), (("spots" : Str), s.heap.objs.size + 1 + 1)]) (fr := [0, 1]) (N' := ["arm", "steps", "spots"]) ?S scHStep.nd rfl (Or.inl rfl) (Or.inl rfl) rfl rfl (pi_list (pe_fld (pv 2) rfl)) (fun _ _ _ _ _ => pg_oneT (by decide +kernel) rfl rfl) (fun _ _ _ _ _ => pifs_nil)
        (fun _ _ _ _ _ => pe_ifExp (pt_cmpR op_isN (pv 0) pe_non (nomark _)) (pe_un un_neg pe_int) (pe_call G2 hr3 (by rfl) m2 k2 b2 .nil pass0 (pa_cons (pv 1) (pa_cons (pv 2) (pa_cons (pv 0) pa_nil))))))
      (pss_one (ps_ret (pe_ifExp (pt_cmpR op_in_seq pe_non (pv 3) (by with_unfolding_all rfl)) (pv 2)
        (pe_make M1 A1 hr3 (by rfl) n1 e1 .nil pass0 (pa_cons (pe_fld (pv 2) rfl) (pa_cons (pe_fld (pv 2) rfl) (pa_cons (pe_fld (pv 2) rfl) (pa_cons (pv 3) pa_nil))))))))), ?_⟩
    case S =>
      refine ⟨rfl, by decide, rfl, by decide, by decide +kernel, rfl, fun i j h => ?_, fun y c h => look_swap (by decide) y c h, has_any (ks := ["steps", "spots"]) (l := [(".0", .local), ("arm", .local), ("straight_way", .globalImplicit), ("spots", .cell), ("steps", .cell)]) rfl rfl (by decide)⟩
      match i, h with
      | 0, h => cases h; exact ⟨"steps", rfl, rfl, .inl rfl, rfl, .inl rfl⟩
      | 1, h => cases h; exact ⟨"spots", rfl, rfl, .inl rfl, rfl, .inl rfl⟩
      | i + 2, h => cases h
    obtain ⟨ty, h1, h2⟩ := T.isS hst
    refine ⟨_, rfl, _, ty, c.summon, isS st, rfl, h1, h2, _, rfl, iteN (fun b => ?_) (fun b => ?_)⟩
    · refine ⟨_, rfl, q v H (Same.refl H) ?_⟩
      cases st with
      | summon as => cases b
      | _ => exact rfl
    · cases hst with
      | @summon a dx m g0 r k vs arms h hm hg0 hr0 ha =>
        refine ⟨_, rfl, a, c.summon, dx, _, _, rfl, h, T.ts.cl, N.s_arms, rfl, r, rfl, ⟨_, SqL.of hr0⟩, fun D hD => ?_⟩
        refine comp_genT (K := K) (a := r) (xs := vs) (fun j u _ => ∀ am, arms[j]? = some am → wayOf ss am u) (ne_of_none hr0 hD) (SqL.of hr0) (smallT _ ?len) (fun _ _ _ _ _ h => h) ?_ ?_
        case len =>
          have := hg.aln i k arms hi
          rw [ha.len]
          omega
        · intro j x H' R hx sD _ qq
          obtain ⟨am, ham, hat⟩ := ha.get hx
          have s' : Same H H' := sD.same hD
          cases hat with
          | non =>
            refine ⟨_, rfl, rfl, _, rfl, iteD (fun _ => ?_) (fun z => absurd rfl z)⟩
            refine ⟨_, rfl, qq _ H' (Same.refl H') fun am' e => ?_⟩
            rw [ham] at e
            cases e
            rfl
          | @arm t g l gs ht hgg =>
            refine ⟨_, rfl, rfl, _, rfl, iteD (fun z => by cases z) (fun _ => ?_)⟩
            refine ⟨_, rfl, _, rfl, _, rfl, ls, d, t, g, xs, ss, l, gs, rfl, s' _ _ hl, hs.same s', hg, hd.same s', s' _ _ ht, s' _ _ hgg, hg.arm i k arms hi l gs (List.mem_of_getElem? ham), hg.gls i k arms hi l gs (List.mem_of_getElem? ham), fun v H3 s3 told => qq v H3 s3 fun am' e => ?_⟩
            rw [ham] at e
            cases e
            exact told
        · intro H3 ways sD hD3 hlen hw
          have s3 : Same H H3 := sD.same hD
          have hW : WaysT ss arms ways := WaysT.of (by rw [hlen, ha.len]) fun i v am e1 e2 => hw i v e1 am e2
          have fl := hW.flat
          refine ⟨_, rfl, D, ways, rfl, .inl (SqL.of hD3), rfl, flat_all fl, _, rfl, ?_⟩
          rw [if_neg (by decide), inV_non fl]
          refine iteD (fun z => ?_) (fun z => ?_)
          · exact ⟨_, rfl, q _ H3 s3 ⟨ways, hW, .inl ⟨z, rfl⟩⟩⟩
          · have h3 := s3 _ _ h
            have hg3 := s3 _ _ hg0
            refine ⟨_, rfl, a, c.summon, dx, _, _, rfl, h3, T.ts.cl, N.s_mark, rfl, _, rfl, a, c.summon, dx, _, _, rfl, h3, T.ts.cl, N.s_callee, rfl, _, rfl, a, c.summon, dx, _, _, rfl, h3, T.ts.cl, N.s_atoms, rfl, _, rfl, fun x dh hx hdh hne => ?_⟩
            refine ⟨x, dh, _, _, g0, D, [], ways, rfl, upd_same, mk_at hx hdh hg3, mk_at hx hdh hD3, fun H' z2 z3 sd h' hz2 hf2 hz3 hf3 => ⟨rfl, ?_⟩⟩
            have sM := mk_same hx hdh sd
            exact q _ H' (s3.trans sM) ⟨ways, hW, .inr ⟨z, a, dx, m, g0, r, x, dh, z2, z3, rfl, sM _ _ h3, rfl, s3.free hx, s3.free (mk_free hf2), s3.free (mk_free hf3), h', hz2, hz3⟩⟩
      | label => cases b
      | jump => cases b
      | ret => cases b
      | tell => cases b
      | move => cases b
end
end K45
set_option maxRecDepth 100000
namespace K45
open PySem L2
def HPiece (c : Cs) (ss : Sts) (B : Addr → Prop) (H : Hp) (xs : List V) (p : Addr) : Prop := ∃ dx lp lw ls us, B p ∧ B lp ∧ B lw ∧ B ls ∧ H p = some (.ins c.piece dx [("name", .str "z"), ("params", .ref lp), ("ways", .ref lw), ("steps", .ref ls)]) ∧ H lp = some (.lst []) ∧ H lw = some (.lst [.str "fault", .str "end", .str "w"]) ∧
  H ls = some (.lst us) ∧ us.length = xs.length ∧ ∀ (i : Nat) (v u : V) (k : Int) (st : Stp), xs[i]? = some v → us[i]? = some u → ss[i]? = some (k, st) → HandR c ss B H v st u
theorem HPiece.keep {c : Cs} {ss : Sts} {B B' : Addr → Prop} {H H' : Hp} {xs : List V} {p : Addr} (hB : ∀ x o, B x → H x = some o → B' x ∧ H' x = some o) (hv : ∀ v ∈ xs, ∀ a o, v = .ref a → H a = some o → H' a = some o) (h : HPiece c ss B H xs p) : HPiece c ss B' H' xs p := by
  obtain ⟨dx, lp, lw, ls, us, b1, b2, b3, b4, e1, e2, e3, e4, e5, e6⟩ := h
  exact ⟨dx, lp, lw, ls, us, (hB _ _ b1 e1).1, (hB _ _ b2 e2).1, (hB _ _ b3 e3).1, (hB _ _ b4 e4).1, (hB _ _ b1 e1).2, (hB _ _ b2 e2).2, (hB _ _ b3 e3).2, (hB _ _ b4 e4).2, e5,
    fun i v u k st h1 h2 h3 => (e6 i v u k st h1 h2 h3).keep hB (hv v (List.mem_of_getElem? h1))⟩
def spHPiece (c : Cs) : Sp := fun vs H Q _ => ∃ (p ls : Addr) (xs : List V) (ss : Sts), vs = [.ref p] ∧ PieceAt c H p ls ∧ H ls = some (.lst xs) ∧ StepsAt c H xs ss ∧ Good ss ∧
  ∀ p' H', Same H H' → HPiece c ss (fun x => H x = none) H' xs p' → Q (.ref p') H'
def CodeAt (c : Cs) (H : Hp) (q p : Addr) : Prop := ∃ dx l, H q = some (.ins c.code dx [("pieces", .ref l)]) ∧ H l = some (.lst [.ref p])
def spHanded (c : Cs) : Sp := fun vs H Q _ => ∃ (co p ls : Addr) (xs : List V) (ss : Sts), vs = [.ref co] ∧ CodeAt c H co p ∧ PieceAt c H p ls ∧ H ls = some (.lst xs) ∧ StepsAt c H xs ss ∧ Good ss ∧
  ∀ co' p' H', Same H H' → CodeAt c H' co' p' → HPiece c ss (fun _ => True) H' xs p' → Q (.ref co') H'
theorem StepAt.there {c : Cs} {H : Hp} {v : V} {k : Int} {s : Stp} (hs : StepAt c H v k s) {D : Addr} (hD : H D = none) : v ≠ .ref D := by
  intro e
  subst e
  cases hs with
  | label h _ => rw [hD] at h; cases h
  | jump h _ => rw [hD] at h; cases h
  | ret h _ _ => rw [hD] at h; cases h
  | tell h _ => rw [hD] at h; cases h
  | move h _ => rw [hD] at h; cases h
  | summon h _ _ _ _ => rw [hD] at h; cases h
theorem StepsAt.there {c : Cs} {H : Hp} {xs : List V} {ss : Sts} (h : StepsAt c H xs ss) {v : V} (hv : v ∈ xs) {D : Addr} (hD : H D = none) : v ≠ .ref D := by
  obtain ⟨i, hi⟩ := List.mem_iff_getElem?.mp hv
  obtain ⟨k, s, _, hs⟩ := h.get hi
  exact hs.there hD
theorem new_of {D x : Addr} {H1 H' : Hp} (sD : SameD D H1 H') (hD : H' D ≠ none) (hx : H' x = none) : H1 x = none ∧ x ≠ D := by
  have nx : x ≠ D := fun e => hD (by rw [← e]; exact hx)
  refine ⟨?_, nx⟩
  cases e : H1 x with
  | none => rfl
  | some o => rw [sD x o nx e] at hx; cases hx
section
variable {P : Program} {w : World} {K : PySem.W.Frag} {mg : Str → Option Value} {base : Heap} {c : Cs}
theorem scHPiece : FnScope ["piece", "spots", "steps"] ["piece"] (defScope sHPiece) := ⟨rfl, rfl, rfl, by decide +kernel, rfl, by decide +kernel, by decide +kernel⟩
theorem scHanded : FnScope ["code"] ["code"] (defScope sHanded) := ⟨rfl, rfl, rfl, by decide +kernel, rfl, by decide +kernel, by decide +kernel⟩
set_option maxHeartbeats 8000000 in
theorem ok_hpiece {g : Addr} {gd : FuncData} (F : Fun K "handed_piece" "handed_piece" sHPiece g gd) (N : NA K c) (O1 : One P w K mg base 1 "label_spots" ["steps"] (spSpots c)) (O2 : One P w K mg base 4 "handed_step" ["steps", "spots", "step"] (spHStep c))
    (C1 : CMk P w K mg base 1 "Piece" c.piece ["self", "name", "params", "ways", "steps"] (spNPiece c.piece)) : FnOk P w K mg base CX0 5 g gd ["piece"] (spHPiece c) := by
  obtain ⟨g1, d1, m1, k1, b1, G1⟩ := O1.is
  obtain ⟨g2, d2, m2, k2, b2, G2⟩ := O2.is
  obtain ⟨p1, q1, n1, M1, e1, A1⟩ := C1.is
  refine F.ok scHPiece (fun vs H Q E h => ?_) (fun cdv A outer s H vs Q E hr h => ?_)
  · obtain ⟨p, ls, xs, ss, rfl, _⟩ := h
    rfl
  · obtain ⟨p, ls, xs, ss, rfl, hp, hl, hs, hg, q⟩ := h
    have hr1 : Room 1 _ := hr.mono (by decide)
    have hr2 : Room 2 _ := hr.mono (by decide)
    have hr4 : Room 4 _ := hr.mono (by decide)
    obtain ⟨dx, lp, lw, h1, h2, h3⟩ := id hp
    refine ⟨_, pss_cons (ps_set (i := 1) scHPiece.nd rfl (Or.inr rfl) (pe_call G1 hr1 (by rfl) m1 k1 b1 .nil pass0 (pa_cons (pe_fld (pv 0) rfl) pa_nil)))
      (pss_cons (ps_setT (i0 := 2) (n := 1) (cl := [(("spots" : Str), s.heap.objs.size + 1 + 1), (("piece" : Str), s.heap.objs.size + 1)]) (fr := [0, 1]) (N' := ["step", "piece", "spots"]) ?S scHPiece.nd rfl (Or.inl rfl) (Or.inl rfl) rfl rfl (pi_list (pe_fld (pv 0) rfl)) (fun _ _ _ _ _ => pg_oneT (by decide +kernel) rfl rfl) (fun _ _ _ _ _ => pifs_nil)
        (fun _ _ _ _ _ => pe_call G2 hr4 (by rfl) m2 k2 b2 .nil pass0 (pa_cons (pe_fldK (K' := K) rfl (pv 1) rfl) (pa_cons (pv 2) (pa_cons (pv 0) pa_nil)))))
      (pss_one (ps_ret (pe_make M1 A1 hr2 (by rfl) n1 e1 .nil pass0 (pa_cons (pe_fld (pv 0) rfl) (pa_cons (pe_fld (pv 0) rfl) (pa_cons (pe_fld (pv 0) rfl) (pa_cons (pv 2) pa_nil)))))))), ?_⟩
    case S =>
      refine ⟨rfl, by decide, rfl, by decide, by decide +kernel, rfl, fun i j h => ?_, fun y c h => h, has_any (ks := ["spots", "piece"]) (l := [(".0", .local), ("step", .local), ("handed_step", .globalImplicit), ("piece", .cell), ("spots", .cell)]) rfl rfl (by decide)⟩
      match i, h with
      | 0, h => cases h; exact ⟨"piece", rfl, rfl, .inl rfl, rfl, .inl rfl⟩
      | 1, h => cases h; exact ⟨"spots", rfl, rfl, .inl rfl, rfl, .inl rfl⟩
      | i + 2, h => cases h
    refine ⟨_, rfl, p, c.piece, dx, _, _, rfl, h1, N.pcl, N.p_steps, rfl, ls, xs, ss, rfl, hl, hs, hg.len, fun d H1 s1 hd1 hsp => ?_⟩
    have hl1 := s1 _ _ hl
    have hs1 := hs.same s1
    refine ⟨_, rfl, p, c.piece, dx, _, _, rfl, s1 _ _ h1, N.pcl, N.p_steps, rfl, ls, rfl, ⟨_, SqL.of hl1⟩, fun D hD => ?_⟩
    refine comp_genT (K := K) (a := ls) (xs := xs) (fun j u H' => ∀ v k st, xs[j]? = some v → ss[j]? = some (k, st) → HandR c ss (fun x => H1 x = none ∧ x ≠ D) H' v st u) (ne_of_none hl1 hD) (SqL.of hl1) (smallT _ (by rw [hs.len]; have := hg.len; omega)) ?_ ?_ ?_
    · intro j u Ha Hb sD hR v k st e1 e2
      exact (hR v k st e1 e2).keep (fun x o hx ho => ⟨hx, sD x o hx.2 ho⟩) fun a o e ho => sD a o (fun z => hs1.there (List.mem_of_getElem? e1) hD (by rw [e, z])) ho
    · intro j x H' R hx sD hDn qq
      have s' : Same H1 H' := sD.same hD
      have s02 := s1.trans s'
      obtain ⟨k, st, hi, hst⟩ := hs1.get hx
      refine ⟨_, rfl, p, c.piece, dx, _, _, rfl, s02 _ _ h1, N.pcl, N.p_steps, rfl, _, rfl, _, rfl, ls, d, xs, ss, x, j, k, st, rfl, s' _ _ hl1, hs1.same s', hg, hsp.same s', hi, hst.same s', fun u H3 s3 hR => qq u H3 s3 fun v k' st' f1 f2 => ?_⟩
      rw [hx] at f1
      cases f1
      rw [hi] at f2
      cases f2
      exact hR.keep (fun y o hy ho => ⟨new_of sD hDn hy, ho⟩) fun a o _ ho => ho
    · intro H3 us sD hD3 hlen hR
      have s3 : Same H1 H3 := sD.same hD
      have s03 := s1.trans s3
      refine ⟨_, rfl, p, c.piece, dx, _, _, rfl, s03 _ _ h1, N.pcl, N.p_name, rfl, _, rfl, p, c.piece, dx, _, _, rfl, s03 _ _ h1, N.pcl, N.p_params, rfl, _, rfl, p, c.piece, dx, _, _, rfl, s03 _ _ h1, N.pcl, N.p_ways, rfl, _, rfl, fun x dh hx hdh hne => ?_⟩
      refine ⟨x, dh, _, lp, lw, D, _, _, us, rfl, upd_same, mk_at hx hdh (s03 _ _ h2), mk_at hx hdh (s03 _ _ h3), mk_at hx hdh hD3, fun H' z1 z2 z3 sd h' hz1 hf1 hz2 hf2 hz3 hf3 => ⟨rfl, ?_⟩⟩
      have sM := mk_same hx hdh sd
      refine q x H' (s03.trans sM) ⟨dh, z1, z2, z3, us, s03.free hx, s03.free (mk_free hf1), s03.free (mk_free hf2), s03.free (mk_free hf3), h', hz1, hz2, hz3, hlen, fun i v u k st e1 e2 e3 => ?_⟩
      exact (hR i u e2 v k st e1 e3).keep (fun y o hy ho => ⟨s1.free hy.1, sM _ _ ho⟩) fun a o _ ho => sM _ _ ho
set_option maxHeartbeats 8000000 in
theorem ok_handed {g : Addr} {gd : FuncData} (F : Fun K "handed" "handed" sHanded g gd) (N : NA K c) (O1 : One P w K mg base 5 "handed_piece" ["piece"] (spHPiece c))
    (C1 : CMk P w K mg base 1 "Code" c.code ["self", "pieces"] (spNCode c.code)) : FnOk P w K mg base CX0 6 g gd ["code"] (spHanded c) := by
  obtain ⟨g1, d1, m1, k1, b1, G1⟩ := O1.is
  obtain ⟨p1, q1, n1, M1, e1, A1⟩ := C1.is
  refine F.ok scHanded (fun vs H Q E h => ?_) (fun cdv A outer s H vs Q E hr h => ?_)
  · obtain ⟨co, p, ls, xs, ss, rfl, _⟩ := h
    rfl
  · obtain ⟨co, p, ls, xs, ss, rfl, hc, hp, hl, hs, hg, q⟩ := h
    have hr2 : Room 2 _ := hr.mono (by decide)
    have hr5 : Room 5 _ := hr.mono (by decide)
    obtain ⟨dc, lc, h1, h2⟩ := id hc
    refine ⟨_, pss_one (ps_ret (pe_make M1 A1 hr2 (by rfl) n1 e1 .nil pass0 (pa_cons (pe_comp (cl := []) (fr := []) (N' := ["piece"]) ?S rfl (pi_list (pe_fld (pv 0) rfl)) (fun _ _ _ _ _ => pifs_nil)
      (fun _ _ _ _ _ => pe_call G1 hr5 (by rfl) m1 k1 b1 .nil pass0 (pa_cons (pv 0) pa_nil))) pa_nil))), ?_⟩
    case S => exact ⟨rfl, by decide, rfl, by decide, rfl, by decide +kernel, rfl, rfl, (fun i j h => absurd h (by simp)), (fun y c h => absurd h (by simp)), has_nil (l := [(".0", .local), ("piece", .local), ("handed_piece", .globalImplicit)]) rfl (by decide)⟩
    refine ⟨_, rfl, co, c.code, dc, _, _, rfl, h1, N.ccl, N.c_pieces, rfl, lc, rfl, ⟨_, SqL.of h2⟩, fun D hD => ?_⟩
    refine comp_gen (K := K) (a := lc) (xs := [.ref p]) (fun j u H' => ∃ p', u = .ref p' ∧ HPiece c ss (fun x => H x = none ∧ x ≠ D) H' xs p') (ne_of_none h2 hD) (SqL.of h2) (smallT 1 (by decide)) ?_ ?_ ?_
    · rintro j u Ha Hb sD ⟨p', rfl, hR⟩
      refine ⟨p', rfl, hR.keep (fun x o hx ho => ⟨hx, sD x o hx.2 ho⟩) fun v hv a o e ho => sD a o (fun z => hs.there hv hD (by rw [e, z])) ho⟩
    · intro j x H' R hx sD hDn qq
      have s' : Same H H' := sD.same hD
      have ex : x = .ref p := by
        match j, hx with
        | 0, hx => exact (Option.some.inj hx).symm
      subst ex
      refine ⟨_, rfl, p, ls, xs, ss, rfl, hp.same s', s' _ _ hl, hs.same s', hg, fun p' H3 s3 hR => qq _ H3 s3 ⟨p', rfl, ?_⟩⟩
      exact hR.keep (fun y o hy ho => ⟨new_of sD hDn hy, ho⟩) fun v _ a o _ ho => ho
    · intro H3 us sD hD3 hlen hR
      have s3 : Same H H3 := sD.same hD
      match us, hlen with
      | [u], _ =>
        obtain ⟨p', rfl, hP⟩ := hR 0 u rfl
        refine fun x dh hx hdh hne => ?_
        refine ⟨x, dh, D, _, rfl, upd_same, mk_at hx hdh hD3, fun H' z0 sd h' hz0 hf0 => ⟨rfl, ?_⟩⟩
        have sM := mk_same hx hdh sd
        exact q x p' H' (s3.trans sM) ⟨dh, z0, h', hz0⟩ (hP.keep (fun y o _ ho => ⟨trivial, sM _ _ ho⟩) fun v _ a o _ ho => sM _ _ ho)
end
end K45
set_option maxRecDepth 100000
namespace L2
open PySem PySem.Spec PyProof.Rows
def tNo : TE := fun _ _ _ => False
def tNoT : TT := fun _ _ _ => False
theorem pe_never {X : Cx} {e : Expr} : PE X e tNo := fun _ _ _ _ _ _ h => h.elim
theorem pt_never {X : Cx} {e : Expr} : PT X e tNoT := fun _ _ _ _ _ _ h => h.elim
end L2
namespace K45
open PySem L2
abbrev sPref : Stmt := top 14
abbrev sAllP : Stmt := top 15
abbrev sArmA : Stmt := top 16
abbrev sCount : Stmt := top 17
abbrev sLineW : Stmt := top 18
abbrev sSummonI : Stmt := inClass (top 8) 0
def spPref : Sp := fun vs H Q _ => ∃ v, vs = [.non, v] ∧ Q v H
def spAllP : Sp := fun vs H Q _ => ∃ a xs, vs = [.non, .ref a] ∧ H a = some (.lst xs) ∧ xs.length ≤ 1000 ∧ ∀ l H', Same H H' → H l = none → H' l = some (.lst xs) → Q (.ref l) H'
inductive ArmN (B : Addr → Prop) (H : Hp) : V → ArmT → Prop where
  | non : ArmN B H .non none
  | arm {t g : Addr} {l : Str} {gs : List Str} (bt : B t) (bg : B g) (h : H t = some (.tup [.str l, .ref g])) (hg : H g = some (.lst (gs.map V.str))) : ArmN B H (.ref t) (some (l, gs))
theorem ArmN.keep {B B' : Addr → Prop} {H H' : Hp} {v : V} {a : ArmT} (hB : ∀ x o, B x → H x = some o → B' x ∧ H' x = some o) (h : ArmN B H v a) : ArmN B' H' v a := by
  cases h with
  | non => exact .non
  | arm bt bg h hg => exact .arm (hB _ _ bt h).1 (hB _ _ bg hg).1 (hB _ _ bt h).2 (hB _ _ bg hg).2
theorem ArmN.at {B : Addr → Prop} {H : Hp} {v : V} {a : ArmT} (h : ArmN B H v a) : ArmAt H v a := by
  cases h with
  | non => exact .non
  | arm bt bg h hg => exact .arm h hg
def armFit (a : ArmT) : Prop := ∀ l gs, a = some (l, gs) → gs.length ≤ 100
def spArmA : Sp := fun vs H Q _ => ∃ (v : V) (d : Addr) (a : ArmT), vs = [v, .ref d, .non] ∧ H d = some (.dK []) ∧ ArmAt H v a ∧ armFit a ∧ ∀ u H', Same H H' → ArmN (fun x => H x = none) H' u a → Q u H'
def spNSummon (C : Addr) : Sp := fun vs H Q _ => ∃ (x dx la lr : Addr) (y0 y1 : V) (xs : List V) (arms : List ArmT), vs = [.ref x, y0, y1, .ref la, .ref lr] ∧ H x = some (.ins C dx []) ∧ H la = some (.lst []) ∧ H lr = some (.lst xs) ∧ ArmsAt H xs arms ∧ arms.length ≤ 100 ∧ (∀ a ∈ arms, armFit a) ∧
  ∀ (H' : Hp) (za zr : Addr) (us : List V), SameD x H H' → H' x = some (.ins C dx [("mark", y0), ("callee", y1), ("atoms", .ref za), ("arms", .ref zr)]) → H' za = some (.lst []) → H' zr = some (.lst us) → H za = none → H zr = none → us.length = arms.length → (∀ (i : Nat) (v : V) (a : ArmT), us[i]? = some v → arms[i]? = some a → ArmN (fun y => H y = none) H' v a) → Q .non H'
section
variable {P : Program} {w : World} {K : PySem.W.Frag} {mg : Str → Option Value} {base : Heap} {c : Cs}
theorem scPref : FnScope ["prefix", "atom"] ["prefix", "atom"] (defScope sPref) := ⟨rfl, rfl, rfl, by decide +kernel, rfl, by decide +kernel, by decide +kernel⟩
theorem scAllP : FnScope ["prefix", "atoms"] ["prefix", "atoms"] (defScope sAllP) := ⟨rfl, rfl, rfl, by decide +kernel, rfl, by decide +kernel, by decide +kernel⟩
theorem scArmA : FnScope ["arm", "given", "prefix"] ["arm", "given", "prefix"] (defScope sArmA) := ⟨rfl, rfl, rfl, by decide +kernel, rfl, by decide +kernel, by decide +kernel⟩
theorem scSummonI : FnScope ["self", "mark", "callee", "atoms", "arms"] ["self", "mark", "callee", "atoms", "arms"] (defScope sSummonI) := ⟨rfl, rfl, rfl, by decide +kernel, rfl, by decide +kernel, by decide +kernel⟩
set_option maxHeartbeats 4000000 in
theorem ok_pref {g : Addr} {gd : FuncData} (F : Fun K "prefixed" "prefixed" sPref g gd) : FnOk P w K mg base CX0 1 g gd ["prefix", "atom"] spPref := by
  refine F.ok scPref (fun vs H Q E h => ?_) (fun cdv A outer s H vs Q E hr h => ?_)
  · obtain ⟨v, rfl, _⟩ := h
    rfl
  · obtain ⟨v, rfl, q⟩ := h
    refine ⟨_, pss_one (ps_ret (pe_ifExp (PW.pt (pw_and (pt_cmpR op_notN (pv 0) pe_non (nomark _)) (pw_and1 pt_never))) pe_never (pv 1))), ?_⟩
    exact ⟨_, rfl, rfl, _, rfl, ite_ff' (by simp) (iteF ⟨_, rfl, q⟩)⟩
set_option maxHeartbeats 4000000 in
theorem ok_allp {g : Addr} {gd : FuncData} (F : Fun K "all_prefixed" "all_prefixed" sAllP g gd) (O : One P w K mg base 1 "prefixed" ["prefix", "atom"] spPref) : FnOk P w K mg base CX0 2 g gd ["prefix", "atoms"] spAllP := by
  obtain ⟨g1, d1, m1, k1, b1, G1⟩ := O.is
  refine F.ok scAllP (fun vs H Q E h => ?_) (fun cdv A outer s H vs Q E hr h => ?_)
  · obtain ⟨a, xs, rfl, _⟩ := h
    rfl
  · obtain ⟨a, xs, rfl, ha, hz, q⟩ := h
    have hr1 : Room 1 _ := hr.mono (by decide)
    refine ⟨_, pss_one (ps_ret (pe_comp (cl := [(("prefix" : Str), s.heap.objs.size + 1)]) (fr := [0]) (N' := ["atom", "prefix"]) ?S rfl (pi_list (pv 1)) (fun _ _ _ _ _ => pifs_nil)
      (fun _ _ _ _ _ => pe_call G1 hr1 (by rfl) m1 k1 b1 .nil pass0 (pa_cons (pv 1) (pa_cons (pv 0) pa_nil))))), ?_⟩
    case S =>
      refine ⟨rfl, by decide, rfl, by decide, rfl, by decide +kernel, rfl, rfl, fun i j h => ?_, fun y c h => h, has_any (ks := ["prefix"]) (l := [(".0", .local), ("atom", .local), ("prefixed", .globalImplicit), ("prefix", .cell)]) rfl rfl (by decide)⟩
      match i, h with
      | 0, h => cases h; exact ⟨"prefix", rfl, rfl, .inl rfl, rfl, .inl rfl⟩
      | i + 1, h => cases h
    refine ⟨_, rfl, a, rfl, ⟨_, SqL.of ha⟩, fun D hD => ?_⟩
    refine comp_list (K := K) (a := a) (xs := xs) id (ne_of_none ha hD) (SqL.of ha) (smallT _ (by omega)) ?_ ?_
    · intro i x H' R hx sd qq
      exact ⟨_, rfl, _, rfl, x, rfl, qq H' (Same.refl H')⟩
    · intro H3 sd hD3
      rw [List.map_id] at hD3
      exact q D H3 (sd.same hD) hD hD3
set_option maxHeartbeats 4000000 in
theorem ok_arma {g : Addr} {gd : FuncData} (F : Fun K "arm_again" "arm_again" sArmA g gd) (O : One P w K mg base 2 "all_prefixed" ["prefix", "atoms"] spAllP) : FnOk P w K mg base CX0 3 g gd ["arm", "given", "prefix"] spArmA := by
  obtain ⟨g1, d1, m1, k1, b1, G1⟩ := O.is
  refine F.ok scArmA (fun vs H Q E h => ?_) (fun cdv A outer s H vs Q E hr h => ?_)
  · obtain ⟨v, d, a, rfl, _⟩ := h
    rfl
  · obtain ⟨v, d, a, rfl, hd, ha, hf, q⟩ := h
    have hr2 : Room 2 _ := hr.mono (by decide)
    have hu := hu_of hr
    refine ⟨_, pss_one (ps_ret (pe_ifExp (pt_cmpR op_isN (pv 0) pe_non (nomark _)) pe_non (pe_tup (pa_cons (pe_dget2 hu (pv 1) (pe_ix ix_tup (pv 0) pe_int (fun _ _ => rfl)) (pe_ix ix_tup (pv 0) pe_int (fun _ _ => rfl)) ⟨rfl, rfl, rfl, rfl⟩)
      (pa_cons (pe_call G1 hr2 (by rfl) m1 k1 b1 .nil pass0 (pa_cons (pv 2) (pa_cons (pe_ix ix_tup (pv 0) pe_int (fun _ _ => rfl)) pa_nil))) pa_nil))))), ?_⟩
    cases ha with
    | non => exact ⟨_, rfl, rfl, _, rfl, iteD (fun _ => q .non H (Same.refl H) .non) (fun z => absurd rfl z)⟩
    | @arm t gg l gs ht hg =>
      refine ⟨_, rfl, rfl, _, rfl, iteD (fun z => by cases z) (fun _ => ?_)⟩
      refine ⟨_, rfl, d, rfl, .inl ⟨_, .inl hd⟩, _, rfl, t, _, _, _, rfl, rfl, SqT.of ht, rfl, _, rfl, t, _, _, _, rfl, rfl, SqT.of ht, rfl, _, DGet.k (k := Sum.inr l) hd, ?_⟩
      refine ⟨_, rfl, _, rfl, t, _, _, _, rfl, rfl, SqT.of ht, rfl, gg, _, rfl, hg, ?_, fun l' H1 s1 hl0 hl1 => ⟨small 2 (by decide), fun t' ht' => ?_⟩⟩
      · have := hf l gs rfl
        rw [List.length_map]
        omega
      · have n : l' ≠ t' := ne_of_none hl1 ht'
        exact q _ _ (same_new s1 ht') (.arm (s1.free ht') hl0 upd_same (by rw [upd_ne n]; exact hl1))
set_option maxHeartbeats 8000000 in
theorem ok_SummonI {g C B : Addr} {gd : FuncData} (F : Fun K "__init__" "Summon.__init__" sSummonI g gd) (BI : BaseI P w K mg base "Step" B ["self", "mark"] ["mark"]) (ml : mg "list" = none) (cl : Cls K C) (n0 : NoAttr K C "mark") (n1 : NoAttr K C "callee") (n2 : NoAttr K C "atoms") (n3 : NoAttr K C "arms")
    (O : One P w K mg base 3 "arm_again" ["arm", "given", "prefix"] spArmA) : FnOk P w K mg base CX0 4 g gd ["self", "mark", "callee", "atoms", "arms"] (spNSummon C) := by
  obtain ⟨gb, db, mb, hB, bb, GB⟩ := BI.is
  obtain ⟨g1, d1, m1, k1, b1, G1⟩ := O.is
  refine F.ok scSummonI (fun vs H Q E h => ?_) (fun cdv A outer s H vs Q E hr h => ?_)
  · obtain ⟨x, dx, la, lr, y0, y1, xs, arms, rfl, _⟩ := h
    rfl
  · obtain ⟨x, dx, la, lr, y0, y1, xs, arms, rfl, hx, hla, hlr, har, hn, hfit, q⟩ := h
    have hr1 : Room 1 _ := hr.mono (by decide)
    have hr3 : Room 3 _ := hr.mono (by decide)
    refine ⟨_, pss_cons (ps_expr (pe_base (by rfl) mb hB GB hr1 bb .nil pass0 (pa_cons (pv 0) (pa_cons (pv 1) pa_nil))))
      (pss_cons (ps_fld (pv 0) (pv 2) rfl)
      (pss_cons (ps_fld (pv 0) (pe_callTy call_list_of (by rfl) ml boot_list (pa_cons (pv 3) pa_nil)) rfl)
      (pss_one (ps_fld (pv 0) (pe_comp (cl := []) (fr := []) (N' := ["arm"]) ?S rfl (pi_list (pv 4)) (fun _ _ _ _ _ => pifs_nil)
        (fun _ _ _ _ _ => pe_call G1 hr3 (by rfl) m1 k1 b1 .nil pass0 (pa_cons (pv 0) (pa_cons pe_dnewK (pa_cons pe_non pa_nil))))) rfl)))), ?_⟩
    case S => exact ⟨rfl, by decide, rfl, by decide, rfl, by decide +kernel, rfl, rfl, (fun i j h => absurd h (by simp)), (fun y c h => absurd h (by simp)), has_nil (l := [(".0", .local), ("arm", .local), ("arm_again", .globalImplicit)]) rfl (by decide)⟩
    have na : ∀ f ∈ (["mark"] : List Str), NoAttr K C f := fun f hf => by
      simp only [List.mem_cons, List.not_mem_nil, or_false] at hf
      subst hf
      exact n0
    have nla : la ≠ x := ne_of hla hx (by intro z; cases z)
    have nlr : lr ≠ x := ne_of hlr hx (by intro z; cases z)
    refine ⟨_, rfl, _, rfl, x, C, dx, [y0], rfl, rfl, hx, cl, na, ?_⟩
    rw [show (["mark"] : List Str).zip [y0] = [(("mark" : Str), y0)] from rfl]
    refine ⟨_, rfl, _, rfl, x, C, dx, _, rfl, upd_same, cl, n1, by show 1 < 1000; decide, ?_⟩
    rw [show putF ("callee" : Str) y1 [(("mark" : Str), y0)] = [(("mark" : Str), y0), (("callee" : Str), y1)] from putF_new (fs := [(("mark" : Str), y0)]) (by show ("callee" : Str) ∉ (["mark"] : List Str); decide), upd_upd]
    have sA : SameD x H (upd H x (.ins C dx [(("mark" : Str), y0), (("callee" : Str), y1)])) := SameD.upd (SameD.refl x H)
    have hA : (upd H x (.ins C dx [(("mark" : Str), y0), (("callee" : Str), y1)])) x = some (.ins C dx [(("mark" : Str), y0), (("callee" : Str), y1)]) := upd_same
    generalize upd H x (.ins C dx [(("mark" : Str), y0), (("callee" : Str), y1)]) = H1 at sA hA
    refine ⟨_, rfl, la, [], rfl, .inl (SqL.of (sA _ _ nla hla)), fun za hza => ?_⟩
    have nza : za ≠ x := fun e => by rw [e, hA] at hza; cases hza
    refine ⟨_, rfl, x, C, dx, _, rfl, (by rw [upd_ne (Ne.symm nza)]; exact hA), cl, n2, by show 2 < 1000; decide, ?_⟩
    rw [show putF ("atoms" : Str) (V.ref za) [(("mark" : Str), y0), (("callee" : Str), y1)] = [(("mark" : Str), y0), (("callee" : Str), y1), (("atoms" : Str), V.ref za)] from putF_new (fs := [(("mark" : Str), y0), (("callee" : Str), y1)]) (by show ("atoms" : Str) ∉ (["mark", "callee"] : List Str); decide)]
    have sB : SameD x H (upd (upd H1 za (.lst [])) x (.ins C dx [(("mark" : Str), y0), (("callee" : Str), y1), (("atoms" : Str), V.ref za)])) := SameD.upd (sA.trans (same_new (Same.refl H1) hza).toD)
    have hB2 : (upd (upd H1 za (.lst [])) x (.ins C dx [(("mark" : Str), y0), (("callee" : Str), y1), (("atoms" : Str), V.ref za)])) x = some (.ins C dx [(("mark" : Str), y0), (("callee" : Str), y1), (("atoms" : Str), V.ref za)]) := upd_same
    have hzB : (upd (upd H1 za (.lst [])) x (.ins C dx [(("mark" : Str), y0), (("callee" : Str), y1), (("atoms" : Str), V.ref za)])) za = some (.lst []) := by rw [upd_ne nza, upd_same]
    generalize upd (upd H1 za (.lst [])) x (.ins C dx [(("mark" : Str), y0), (("callee" : Str), y1), (("atoms" : Str), V.ref za)]) = H2 at sB hB2 hzB
    have hlr2 := sB _ _ nlr hlr
    have har2 : ArmsAt H2 xs arms := ArmsAt.of har.len fun i v a e1 e2 => by
      obtain ⟨a', e3, h⟩ := har.get e1
      rw [e2] at e3
      cases e3
      cases h with
      | non => exact .non
      | arm h hg => exact .arm (sB _ _ (ne_of h hx (by intro z; cases z)) h) (sB _ _ (ne_of hg hx (by intro z; cases z)) hg)
    refine ⟨_, rfl, lr, rfl, ⟨_, SqL.of hlr2⟩, fun D hD => ?_⟩
    have nD : D ≠ x := fun e => by rw [e, hB2] at hD; cases hD
    refine comp_gen (K := K) (a := lr) (xs := xs) (fun j u H' => ∀ a, arms[j]? = some a → ArmN (fun y => H2 y = none ∧ y ≠ D) H' u a) (ne_of_none hlr2 hD) (SqL.of hlr2) (smallT _ (by rw [har.len]; omega)) ?_ ?_ ?_
    · intro j u Ha Hb sD hR a e
      exact (hR a e).keep fun y o hy ho => ⟨hy, sD y o hy.2 ho⟩
    · intro j v H' R hv sD hDn qq
      have s' : Same H2 H' := sD.same hD
      obtain ⟨a, ea, hat⟩ := har2.get hv
      refine ⟨_, rfl, fun d hd => ?_⟩
      have s'' := s'.trans (same_new (o := .dK []) (Same.refl H') hd)
      refine ⟨v, d, a, rfl, upd_same, hat.same s'', hfit a (List.mem_of_getElem? ea), fun u H3 s3 hu3 => qq u H3 ((same_new (o := .dK []) (Same.refl H') hd).trans s3) fun a' e => ?_⟩
      rw [ea] at e
      cases e
      exact hu3.keep fun y o hy ho => ⟨new_of sD hDn ((same_new (o := .dK []) (Same.refl H') hd).free hy), ho⟩
    · intro H3 us sD hD3 hlen hR
      have s3 : Same H2 H3 := sD.same hD
      refine ⟨_, rfl, x, C, dx, _, rfl, s3 _ _ hB2, cl, n3, by show 3 < 1000; decide, ?_⟩
      rw [show putF ("arms" : Str) (V.ref D) [(("mark" : Str), y0), (("callee" : Str), y1), (("atoms" : Str), V.ref za)] = [(("mark" : Str), y0), (("callee" : Str), y1), (("atoms" : Str), V.ref za), (("arms" : Str), V.ref D)] from putF_new (fs := [(("mark" : Str), y0), (("callee" : Str), y1), (("atoms" : Str), V.ref za)]) (by show ("arms" : Str) ∉ (["mark", "callee", "atoms"] : List Str); decide)]
      have back : ∀ {y : Addr}, H2 y = none → H y = none := fun {y} hy => by
        cases e : H y with
        | none => rfl
        | some o =>
          by_cases ey : y = x
          · rw [ey, hB2] at hy
            cases hy
          · rw [sB _ _ ey e] at hy
            cases hy
      have backA : ∀ {y : Addr}, H1 y = none → H y = none := fun {y} hy => by
        cases e : H y with
        | none => rfl
        | some o =>
          by_cases ey : y = x
          · rw [ey, hA] at hy
            cases hy
          · rw [sA _ _ ey e] at hy
            cases hy
      refine q _ za D us (SameD.upd (sB.trans s3.toD)) upd_same (by rw [upd_ne nza]; exact s3 _ _ hzB) (by rw [upd_ne nD]; exact hD3) (backA hza) (back hD) (by rw [hlen, har.len]) fun i v a e1 e2 => ?_
      refine (hR i v e1 a e2).keep fun y o hy ho => ⟨back hy.1, ?_⟩
      have ny : y ≠ x := fun e => by rw [e] at hy; rw [hB2] at hy; cases hy.1
      rw [upd_ne ny]
      exact ho
end
end K45
set_option maxRecDepth 100000
namespace K45
open PySem L2
abbrev sLblW : Stmt := inClass (top 4) 2
abbrev sMovW : Stmt := inClass (top 5) 3
abbrev sTelW : Stmt := inClass (top 6) 3
abbrev sJmpW : Stmt := inClass (top 7) 4
abbrev sSumW : Stmt := inClass (top 8) 5
abbrev sRetW : Stmt := inClass (top 10) 4
abbrev sStpL : Stmt := inClass (top 3) 1
abbrev sJmpL : Stmt := inClass (top 7) 1
def sm (i : Int) : Prop := i.natAbs < 2 ^ 100
theorem sm.log {i : Int} (h : sm i) : i.natAbs.log2 < 1920 := by
  by_cases h0 : i.natAbs = 0
  · rw [h0]; decide
  · have z := (Nat.log2_lt h0).mpr h
    omega
def wdZ : V → Str
  | .str z => z
  | .int n => toString n
  | _ => ""
inductive WdV : V → Prop where
  | str (z : Str) : WdV (.str z)
  | int (n : Int) (h : sm n) : WdV (.int n)
def armV : ArmT → List V
  | none => [.str "-"]
  | some (l, gs) => .str l :: .int (gs.length : Nat) :: gs.map V.str
def toldV : Stp → List V
  | .label _ => []
  | .jump l => [.str l]
  | .ret w ats => .int w :: .int (ats.length : Nat) :: ats.map kV
  | .tell => [.str "a"]
  | .move n => [.str "a", .int n]
  | .summon arms => .str "z" :: .int ((0 : Nat) : Int) :: .int (arms.length : Nat) :: (arms.map armV).flatten
def wordZ : Stp → Str
  | .label _ => ""
  | .jump _ => "jump"
  | .ret _ _ => "return"
  | .tell => "tell"
  | .move _ => "move"
  | .summon _ => "summon"
def wordsOf (k : Int) (s : Stp) : List Str := match s with
  | .label _ => []
  | _ => wordZ s :: "z" :: toString k :: (toldV s).map wdZ
def smK : Key → Prop
  | .inl i => sm i
  | .inr _ => True
structure Fit (k : Int) (s : Stp) : Prop where
  km : sm k
  ret : ∀ w ats, s = .ret w ats → sm w ∧ ats.length ≤ 100 ∧ ∀ x ∈ ats, smK x
  mov : ∀ n, s = .move n → sm n
  sum : ∀ arms, s = .summon arms → arms.length ≤ 10 ∧ ∀ a ∈ arms, armFit a
def spCount : Sp := fun vs H Q _ => ∃ a xs, vs = [.ref a] ∧ H a = some (.lst xs) ∧ xs.length ≤ 1000 ∧ ∀ l H', Same H H' → H l = none → H' l = some (.lst (.int (xs.length : Nat) :: xs)) → Q (.ref l) H'
def spLineW : Sp := fun vs H Q _ => ∃ wd m k t xs, vs = [.str wd, .ref m, .ref t] ∧ markAt H m k ∧ sm k ∧ H t = some (.lst xs) ∧ (∀ v ∈ xs, WdV v) ∧ xs.length ≤ 4000 ∧ ∀ l H', Same H H' → H l = none → H' l = some (.lst ((wd :: "z" :: toString k :: xs.map wdZ).map V.str)) → Q (.ref l) H'
def spW (c : Cs) (p : Stp → Bool) : Sp := fun vs H Q _ => ∃ v k s, vs = [v] ∧ StepAt c H v k s ∧ p s = true ∧ Fit k s ∧ ∀ l H', Same H H' → H l = none → H' l = some (.lst ((wordsOf k s).map V.str)) → Q (.ref l) H'
def labsOf : Stp → List Str
  | .jump l => [l]
  | _ => []
def spLb (c : Cs) (p : Stp → Bool) : Sp := fun vs H Q _ => ∃ v k s, vs = [v] ∧ StepAt c H v k s ∧ p s = true ∧ ∀ l H', Same H H' → H l = none → H' l = some (.lst ((labsOf s).map V.str)) → Q (.ref l) H'
def isM : Stp → Bool
  | .move _ => true
  | _ => false
def isT : Stp → Bool
  | .tell => true
  | _ => false
section
variable {P : Program} {w : World} {K : PySem.W.Frag} {mg : Str → Option Value} {base : Heap} {c : Cs}
theorem scCount : FnScope ["things"] ["things"] (defScope sCount) := ⟨rfl, rfl, rfl, by decide +kernel, rfl, by decide +kernel, by decide +kernel⟩
theorem scLineW : FnScope ["word", "mark", "told"] ["word", "mark", "told"] (defScope sLineW) := ⟨rfl, rfl, rfl, by decide +kernel, rfl, by decide +kernel, by decide +kernel⟩
theorem scLblW : FnScope ["self"] ["self"] (defScope sLblW) := ⟨rfl, rfl, rfl, by decide +kernel, rfl, by decide +kernel, by decide +kernel⟩
theorem scMovW : FnScope ["self"] ["self"] (defScope sMovW) := ⟨rfl, rfl, rfl, by decide +kernel, rfl, by decide +kernel, by decide +kernel⟩
theorem scTelW : FnScope ["self"] ["self"] (defScope sTelW) := ⟨rfl, rfl, rfl, by decide +kernel, rfl, by decide +kernel, by decide +kernel⟩
theorem scJmpW : FnScope ["self"] ["self"] (defScope sJmpW) := ⟨rfl, rfl, rfl, by decide +kernel, rfl, by decide +kernel, by decide +kernel⟩
theorem scRetW : FnScope ["self"] ["self"] (defScope sRetW) := ⟨rfl, rfl, rfl, by decide +kernel, rfl, by decide +kernel, by decide +kernel⟩
theorem scSumW : FnScope ["self", "told", "arm"] ["self"] (defScope sSumW) := ⟨rfl, rfl, rfl, by decide +kernel, rfl, by decide +kernel, by decide +kernel⟩
theorem scStpL : FnScope ["self"] ["self"] (defScope sStpL) := ⟨rfl, rfl, rfl, by decide +kernel, rfl, by decide +kernel, by decide +kernel⟩
theorem scJmpL : FnScope ["self"] ["self"] (defScope sJmpL) := ⟨rfl, rfl, rfl, by decide +kernel, rfl, by decide +kernel, by decide +kernel⟩
set_option maxHeartbeats 4000000 in
theorem ok_count {g : Addr} {gd : FuncData} (F : Fun K "counted" "counted" sCount g gd) (T : Isi K mg c) : FnOk P w K mg base CX0 1 g gd ["things"] spCount := by
  refine F.ok scCount (fun vs H Q E h => ?_) (fun cdv A outer s H vs Q E hr h => ?_)
  · obtain ⟨a, xs, rfl, _⟩ := h
    rfl
  · obtain ⟨a, xs, rfl, ha, hz, q⟩ := h
    refine ⟨_, pss_one (ps_ret (pe_op op_cat (pe_lst (pa_cons (pe_callB call_len_seq (by rfl) T.len PySem.boot_len (pa_cons (pv 0) pa_nil)) pa_nil)) (pv 0))), ?_⟩
    refine ⟨_, rfl, a, _, rfl, .inl (SqL.of ha), small 1 (by decide), fun l1 hl1 => ?_⟩
    have s1 := same_new (o := .lst [V.int (xs.length : Nat)]) (Same.refl H) hl1
    refine ⟨_, rfl, l1, a, _, xs, rfl, rfl, upd_same, s1 _ _ ha, small _ (by simp only [List.length_cons, List.length_nil]; omega), fun l2 hl2 => ?_⟩
    exact q l2 _ (same_new s1 hl2) (s1.free hl2) upd_same
set_option maxHeartbeats 4000000 in
theorem ok_linew {g : Addr} {gd : FuncData} (F : Fun K "line_words" "line_words" sLineW g gd) (T : Isi K mg c) : FnOk P w K mg base CX0 1 g gd ["word", "mark", "told"] spLineW := by
  refine F.ok scLineW (fun vs H Q E h => ?_) (fun cdv A outer s H vs Q E hr h => ?_)
  · obtain ⟨wd, m, k, t, xs, rfl, _⟩ := h
    rfl
  · obtain ⟨wd, m, k, t, xs, rfl, hm, hk, ht, hw, hz, q⟩ := h
    refine ⟨_, pss_one (ps_ret (pe_comp (cl := []) (fr := []) (N' := ["part"]) ?S rfl (pi_list (pe_op op_cat (pe_lst (pa_cons (pv 0) (pa_cons (pe_ix ix_tup (pv 1) pe_int (fun _ _ => rfl)) (pa_cons (pe_ix ix_tup (pv 1) pe_int (fun _ _ => rfl)) pa_nil)))) (pv 2))) (fun _ _ _ _ _ => pifs_nil)
      (fun _ _ _ _ _ => pe_callTy (CallR.or call_str_int call_str_str) (by rfl) T.str boot_str (pa_cons (pv 0) pa_nil)))), ?_⟩
    case S => exact ⟨rfl, by decide, rfl, by decide, rfl, by decide +kernel, rfl, rfl, (fun i j h => absurd h (by simp)), (fun y c h => absurd h (by simp)), has_nil (l := [(".0", .local), ("part", .local), ("str", .globalImplicit)]) rfl (by decide)⟩
    refine ⟨_, rfl, _, rfl, m, _, _, _, rfl, rfl, SqT.of hm, rfl, _, rfl, m, _, _, _, rfl, rfl, SqT.of hm, rfl, small 3 (by decide), fun l1 hl1 => ?_⟩
    have s1 := same_new (o := .lst [V.str wd, V.str "z", V.int k]) (Same.refl H) hl1
    refine ⟨_, rfl, l1, t, _, xs, rfl, rfl, upd_same, s1 _ _ ht, small _ (by simp only [List.length_cons, List.length_nil]; omega), fun l2 hl2 => ?_⟩
    have s2 := s1.trans (same_new (o := .lst ([V.str wd, V.str "z", V.int k] ++ xs)) (Same.refl _) hl2)
    have h2 : (upd (upd H l1 (.lst [V.str wd, V.str "z", V.int k])) l2 (.lst ([V.str wd, V.str "z", V.int k] ++ xs))) l2 = some (.lst ([V.str wd, V.str "z", V.int k] ++ xs)) := upd_same
    generalize upd (upd H l1 (.lst [V.str wd, V.str "z", V.int k])) l2 (.lst ([V.str wd, V.str "z", V.int k] ++ xs)) = H2 at s2 h2
    refine ⟨l2, rfl, ⟨_, SqL.of h2⟩, fun D hD => ?_⟩
    refine comp_list (K := K) (a := l2) (xs := [V.str wd, V.str "z", V.int k] ++ xs) (fun v => V.str (wdZ v)) (ne_of_none h2 hD) (SqL.of h2) (smallT _ (by simp only [List.length_append, List.length_cons, List.length_nil]; omega)) ?_ ?_
    · intro i x H' R hx sd qq
      have hx' : WdV x := by
        rcases List.mem_append.mp (List.mem_of_getElem? hx) with h | h
        · simp only [List.mem_cons, List.not_mem_nil, or_false] at h
          rcases h with rfl | rfl | rfl
          · exact .str _
          · exact .str _
          · exact .int _ hk
        · exact hw x h
      cases hx' with
      | str z => exact ⟨_, rfl, .inr ⟨z, rfl, qq H' (Same.refl H')⟩⟩
      | int n h => exact ⟨_, rfl, .inl ⟨n, rfl, h.log, qq H' (Same.refl H')⟩⟩
    · intro H3 sd hD3
      refine q D H3 (s2.trans (sd.same hD)) (s2.free hD) ?_
      rw [hD3, List.map_append, List.map_cons, List.map_cons, List.map_cons, List.map_cons, List.map_cons, List.map_cons, List.map_map]
      rfl
theorem wd_keys {ats : List Key} (h : ∀ x ∈ ats, smK x) : ∀ v ∈ ats.map kV, WdV v := fun v hv => by
  obtain ⟨x, hx, rfl⟩ := List.mem_map.mp hv
  cases x with
  | inl i => exact .int i (h _ hx)
  | inr z => exact .str z
theorem sm_nat {n : Nat} (h : n ≤ 5000) : sm (n : Nat) := by
  unfold sm
  have : (2 : Nat) ^ 100 > 5000 := by decide
  omega
theorem wd_arm {a : ArmT} (h : armFit a) : ∀ v ∈ armV a, WdV v := fun v hv => by
  cases a with
  | none =>
    have e : v = .str "-" := by simpa [armV] using hv
    subst e
    exact .str _
  | some p =>
    obtain ⟨l, gs⟩ := p
    rcases List.mem_cons.mp hv with rfl | hv
    · exact .str _
    rcases List.mem_cons.mp hv with rfl | hv
    · exact .int _ (sm_nat (by have := h l gs rfl; omega))
    obtain ⟨z, _, rfl⟩ := List.mem_map.mp hv
    exact .str z
theorem len_arm {a : ArmT} (h : armFit a) : (armV a).length ≤ 102 := by
  cases a with
  | none => show 1 ≤ 102; decide
  | some p =>
    obtain ⟨l, gs⟩ := p
    have := h l gs rfl
    show (gs.map V.str).length + 1 + 1 ≤ 102
    rw [List.length_map]
    omega
set_option maxHeartbeats 4000000 in
theorem ok_lblW {g : Addr} {gd : FuncData} (F : Fun K "words" "Label.words" sLblW g gd) : FnOk P w K mg base CX0 2 g gd ["self"] (spW c isL) := by
  refine F.ok scLblW (fun vs H Q E h => ?_) (fun cdv A outer s H vs Q E hr h => ?_)
  · obtain ⟨v, k, st, rfl, _⟩ := h
    rfl
  · obtain ⟨v, k, st, rfl, hst, hp, hf, q⟩ := h
    refine ⟨_, pss_one (ps_ret (pe_lst pa_nil)), ?_⟩
    refine ⟨small 0 (by decide), fun l hl => ?_⟩
    refine q l _ (same_new (Same.refl H) hl) hl ?_
    cases st with
    | label => exact upd_same
    | _ => cases hp
set_option maxHeartbeats 4000000 in
theorem ok_stpL {g : Addr} {gd : FuncData} (F : Fun K "labels" "Step.labels" sStpL g gd) : FnOk P w K mg base CX0 2 g gd ["self"] (spLb c fun s => !isJ s) := by
  refine F.ok scStpL (fun vs H Q E h => ?_) (fun cdv A outer s H vs Q E hr h => ?_)
  · obtain ⟨v, k, st, rfl, _⟩ := h
    rfl
  · obtain ⟨v, k, st, rfl, hst, hp, q⟩ := h
    refine ⟨_, pss_one (ps_ret (pe_lst pa_nil)), ?_⟩
    refine ⟨small 0 (by decide), fun l hl => ?_⟩
    refine q l _ (same_new (Same.refl H) hl) hl ?_
    cases st with
    | jump => cases hp
    | _ => exact upd_same
set_option maxHeartbeats 4000000 in
theorem ok_jmpL {g : Addr} {gd : FuncData} (F : Fun K "labels" "Jump.labels" sJmpL g gd) (T : Isi K mg c) (N : NA K c) : FnOk P w K mg base CX0 2 g gd ["self"] (spLb c isJ) := by
  refine F.ok scJmpL (fun vs H Q E h => ?_) (fun cdv A outer s H vs Q E hr h => ?_)
  · obtain ⟨v, k, st, rfl, _⟩ := h
    rfl
  · obtain ⟨v, k, st, rfl, hst, hp, q⟩ := h
    refine ⟨_, pss_one (ps_ret (pe_lst (pa_cons (pe_fld (pv 0) rfl) pa_nil))), ?_⟩
    cases hst with
    | @jump a dx m k l h hm =>
      refine ⟨_, rfl, a, c.jump, dx, _, _, rfl, h, T.tj.cl, N.j_label, rfl, small 1 (by decide), fun l1 hl1 => ?_⟩
      exact q l1 _ (same_new (Same.refl H) hl1) hl1 upd_same
    | _ => cases hp
set_option maxHeartbeats 4000000 in
theorem ok_jmpW {g : Addr} {gd : FuncData} (F : Fun K "words" "Jump.words" sJmpW g gd) (T : Isi K mg c) (N : NA K c) (O : One P w K mg base 1 "line_words" ["word", "mark", "told"] spLineW) : FnOk P w K mg base CX0 2 g gd ["self"] (spW c isJ) := by
  obtain ⟨g1, d1, m1, k1, b1, G1⟩ := O.is
  refine F.ok scJmpW (fun vs H Q E h => ?_) (fun cdv A outer s H vs Q E hr h => ?_)
  · obtain ⟨v, k, st, rfl, _⟩ := h
    rfl
  · obtain ⟨v, k, st, rfl, hst, hp, hf, q⟩ := h
    have hr1 : Room 1 _ := hr.mono (by decide)
    refine ⟨_, pss_one (ps_ret (pe_call G1 hr1 (by rfl) m1 k1 b1 .nil pass0 (pa_cons pe_str (pa_cons (pe_fld (pv 0) rfl) (pa_cons (pe_lst (pa_cons (pe_fld (pv 0) rfl) pa_nil)) pa_nil))))), ?_⟩
    cases hst with
    | @jump a dx m k l h hm =>
      refine ⟨_, rfl, a, c.jump, dx, _, _, rfl, h, T.tj.cl, N.j_mark, rfl, _, rfl, a, c.jump, dx, _, _, rfl, h, T.tj.cl, N.j_label, rfl, small 1 (by decide), fun t ht => ?_⟩
      have s1 := same_new (o := .lst [V.str l]) (Same.refl H) ht
      refine ⟨_, m, k, t, _, rfl, s1 _ _ hm, hf.km, upd_same, fun v hv => ?_, by show 1 ≤ 4000; decide, fun l2 H2 s2 hl2 h2 => q l2 H2 (s1.trans s2) (s1.free hl2) h2⟩
      have e : v = .str l := by simpa using hv
      subst e
      exact .str _
    | _ => cases hp
set_option maxHeartbeats 4000000 in
theorem ok_telW {g : Addr} {gd : FuncData} (F : Fun K "words" "Tell.words" sTelW g gd) (T : Isi K mg c) (N : NA K c) (O : One P w K mg base 1 "line_words" ["word", "mark", "told"] spLineW) : FnOk P w K mg base CX0 2 g gd ["self"] (spW c isT) := by
  obtain ⟨g1, d1, m1, k1, b1, G1⟩ := O.is
  refine F.ok scTelW (fun vs H Q E h => ?_) (fun cdv A outer s H vs Q E hr h => ?_)
  · obtain ⟨v, k, st, rfl, _⟩ := h
    rfl
  · obtain ⟨v, k, st, rfl, hst, hp, hf, q⟩ := h
    have hr1 : Room 1 _ := hr.mono (by decide)
    refine ⟨_, pss_one (ps_ret (pe_call G1 hr1 (by rfl) m1 k1 b1 .nil pass0 (pa_cons pe_str (pa_cons (pe_fld (pv 0) rfl) (pa_cons (pe_lst (pa_cons (pe_fld (pv 0) rfl) pa_nil)) pa_nil))))), ?_⟩
    cases hst with
    | @tell a dx m k h hm =>
      refine ⟨_, rfl, a, c.tell, dx, _, _, rfl, h, T.tt.cl, N.t_mark, rfl, _, rfl, a, c.tell, dx, _, _, rfl, h, T.tt.cl, N.t_atom, rfl, small 1 (by decide), fun t ht => ?_⟩
      have s1 := same_new (o := .lst [V.str "a"]) (Same.refl H) ht
      refine ⟨_, m, k, t, _, rfl, s1 _ _ hm, hf.km, upd_same, fun v hv => ?_, by show 1 ≤ 4000; decide, fun l2 H2 s2 hl2 h2 => q l2 H2 (s1.trans s2) (s1.free hl2) h2⟩
      have e : v = .str "a" := by simpa using hv
      subst e
      exact .str _
    | _ => cases hp
set_option maxHeartbeats 4000000 in
theorem ok_movW {g : Addr} {gd : FuncData} (F : Fun K "words" "Move.words" sMovW g gd) (T : Isi K mg c) (N : NA K c) (O : One P w K mg base 1 "line_words" ["word", "mark", "told"] spLineW) : FnOk P w K mg base CX0 2 g gd ["self"] (spW c isM) := by
  obtain ⟨g1, d1, m1, k1, b1, G1⟩ := O.is
  refine F.ok scMovW (fun vs H Q E h => ?_) (fun cdv A outer s H vs Q E hr h => ?_)
  · obtain ⟨v, k, st, rfl, _⟩ := h
    rfl
  · obtain ⟨v, k, st, rfl, hst, hp, hf, q⟩ := h
    have hr1 : Room 1 _ := hr.mono (by decide)
    refine ⟨_, pss_one (ps_ret (pe_call G1 hr1 (by rfl) m1 k1 b1 .nil pass0 (pa_cons pe_str (pa_cons (pe_fld (pv 0) rfl) (pa_cons (pe_lst (pa_cons (pe_fld (pv 0) rfl) (pa_cons (pe_fld (pv 0) rfl) pa_nil))) pa_nil))))), ?_⟩
    cases hst with
    | @move a dx m k n h hm =>
      refine ⟨_, rfl, a, c.move, dx, _, _, rfl, h, T.tm.cl, N.m_mark, rfl, _, rfl, a, c.move, dx, _, _, rfl, h, T.tm.cl, N.m_goal, rfl, _, rfl, a, c.move, dx, _, _, rfl, h, T.tm.cl, N.m_atom, rfl, small 2 (by decide), fun t ht => ?_⟩
      have s1 := same_new (o := .lst [V.str "a", V.int n]) (Same.refl H) ht
      refine ⟨_, m, k, t, _, rfl, s1 _ _ hm, hf.km, upd_same, fun v hv => ?_, by show 2 ≤ 4000; decide, fun l2 H2 s2 hl2 h2 => q l2 H2 (s1.trans s2) (s1.free hl2) h2⟩
      simp only [List.mem_cons, List.not_mem_nil, or_false] at hv
      rcases hv with rfl | rfl
      · exact .str _
      · exact .int _ (hf.mov n rfl)
    | _ => cases hp
set_option maxHeartbeats 4000000 in
theorem ok_retW {g : Addr} {gd : FuncData} (F : Fun K "words" "Return.words" sRetW g gd) (T : Isi K mg c) (N : NA K c) (O : One P w K mg base 1 "line_words" ["word", "mark", "told"] spLineW) (O2 : One P w K mg base 1 "counted" ["things"] spCount) : FnOk P w K mg base CX0 2 g gd ["self"] (spW c isR) := by
  obtain ⟨g1, d1, m1, k1, b1, G1⟩ := O.is
  obtain ⟨g2, d2, m2, k2, b2, G2⟩ := O2.is
  refine F.ok scRetW (fun vs H Q E h => ?_) (fun cdv A outer s H vs Q E hr h => ?_)
  · obtain ⟨v, k, st, rfl, _⟩ := h
    rfl
  · obtain ⟨v, k, st, rfl, hst, hp, hf, q⟩ := h
    have hr1 : Room 1 _ := hr.mono (by decide)
    refine ⟨_, pss_one (ps_ret (pe_call G1 hr1 (by rfl) m1 k1 b1 .nil pass0 (pa_cons pe_str (pa_cons (pe_fld (pv 0) rfl) (pa_cons (pe_op op_cat (pe_lst (pa_cons (pe_fld (pv 0) rfl) pa_nil)) (pe_call G2 hr1 (by rfl) m2 k2 b2 .nil pass0 (pa_cons (pe_fld (pv 0) rfl) pa_nil))) pa_nil))))), ?_⟩
    cases hst with
    | @ret a dx m gg k way ats h hm hg =>
      obtain ⟨f1, f2, f3⟩ := hf.ret way ats rfl
      refine ⟨_, rfl, a, c.ret, dx, _, _, rfl, h, T.tr.cl, N.r_mark, rfl, _, rfl, a, c.ret, dx, _, _, rfl, h, T.tr.cl, N.r_way, rfl, small 1 (by decide), fun l1 hl1 => ?_⟩
      have s1 := same_new (o := .lst [V.int way]) (Same.refl H) hl1
      have w1 : (upd H l1 (.lst [V.int way])) l1 = some (.lst [V.int way]) := upd_same
      generalize upd H l1 (.lst [V.int way]) = H1 at s1 w1
      refine ⟨_, rfl, a, c.ret, dx, _, _, rfl, s1 _ _ h, T.tr.cl, N.r_atoms, rfl, gg, _, rfl, s1 _ _ hg, by rw [List.length_map]; omega, fun l2 H2 s2' hl2 w2 => ?_⟩
      have s2 := s1.trans s2'
      refine ⟨l1, l2, _, _, rfl, rfl, s2' _ _ w1, w2, small _ (by simp only [List.length_cons, List.length_nil, List.length_map]; omega), fun l3 hl3 => ?_⟩
      have s3 := s2.trans (same_new (o := .lst ([V.int way] ++ V.int ((ats.map kV).length : Nat) :: ats.map kV)) (Same.refl H2) hl3)
      refine ⟨_, m, k, l3, _, rfl, s3 _ _ hm, hf.km, upd_same, fun v hv => ?_, ?_, fun l4 H4 s4 hl4 h4 => q l4 H4 (s3.trans s4) (s3.free hl4) ?_⟩
      · rcases List.mem_cons.mp hv with rfl | hv
        · exact .int _ f1
        rcases List.mem_cons.mp hv with rfl | hv
        · exact .int _ (sm_nat (by rw [List.length_map]; omega))
        · exact wd_keys f3 v hv
      · simp only [List.length_append, List.length_cons, List.length_nil, List.length_map]
        omega
      · rw [List.length_map] at h4
        exact h4
    | _ => cases hp
set_option maxHeartbeats 8000000 in
theorem ok_sumW {g : Addr} {gd : FuncData} (F : Fun K "words" "Summon.words" sSumW g gd) (T : Isi K mg c) (N : NA K c) (O : One P w K mg base 1 "line_words" ["word", "mark", "told"] spLineW) (O2 : One P w K mg base 1 "counted" ["things"] spCount) : FnOk P w K mg base CX0 2 g gd ["self"] (spW c isS) := by
  obtain ⟨g1, d1, m1, k1, b1, G1⟩ := O.is
  obtain ⟨g2, d2, m2, k2, b2, G2⟩ := O2.is
  refine F.ok scSumW (fun vs H Q E h => ?_) (fun cdv A outer s H vs Q E hr h => ?_)
  · obtain ⟨v, k, st, rfl, _⟩ := h
    rfl
  · obtain ⟨v, k, st, rfl, hst, hp, hf, q⟩ := h
    have hr1 : Room 1 _ := hr.mono (by decide)
    refine ⟨_, pss_cons (ps_set (i := 1) scSumW.nd rfl (Or.inl rfl) (pe_op op_cat (pe_op op_cat (pe_lst (pa_cons (pe_fld (pv 0) rfl) pa_nil)) (pe_call G2 hr1 (by rfl) m2 k2 b2 .nil pass0 (pa_cons (pe_fld (pv 0) rfl) pa_nil))) (pe_lst (pa_cons (pe_callB call_len_seq (by rfl) T.len PySem.boot_len (pa_cons (pe_fld (pv 0) rfl) pa_nil)) pa_nil))))
      (pss_cons (ps_for PassesOwn.never rfl (pi_list (pe_fld (pv 0) rfl)) (pg_name (i := 2) scSumW.nd rfl (Or.inl rfl))
        (pss_one (ps_expr (pe_bm PySem.F.plainAttrs_list PySem.F.slot_list_extend PySem.F.type_list_extend mt_extend (pv 1) (pa_cons (pe_ifExp (pt_cmpR op_isN (pv 2) pe_non (nomark _)) (pe_lst (pa_cons pe_str pa_nil))
          (pe_op op_cat (pe_lst (pa_cons (pe_ix ix_tup (pv 2) pe_int (fun _ _ => rfl)) pa_nil)) (pe_call G2 hr1 (by rfl) m2 k2 b2 .nil pass0 (pa_cons (pe_ix ix_tup (pv 2) pe_int (fun _ _ => rfl)) pa_nil)))) pa_nil)))))
      (pss_one (ps_ret (pe_call G1 hr1 (by rfl) m1 k1 b1 .nil pass0 (pa_cons pe_str (pa_cons (pe_fld (pv 0) rfl) (pa_cons (pv 1) pa_nil))))))), ?_⟩
    cases hst with
    | @summon a dx m gg r k vs arms h hm hg hr0 ha =>
      obtain ⟨f1, f2⟩ := hf.sum arms rfl
      refine ⟨_, rfl, a, c.summon, dx, _, _, rfl, h, T.ts.cl, N.s_callee, rfl, small 1 (by decide), fun l1 hl1 => ?_⟩
      have s1 := same_new (o := .lst [V.str "z"]) (Same.refl H) hl1
      have w1 : (upd H l1 (.lst [V.str "z"])) l1 = some (.lst [V.str "z"]) := upd_same
      generalize upd H l1 (.lst [V.str "z"]) = H1 at s1 w1
      refine ⟨_, rfl, a, c.summon, dx, _, _, rfl, s1 _ _ h, T.ts.cl, N.s_atoms, rfl, gg, [], rfl, s1 _ _ hg, by show 0 ≤ 1000; decide, fun l2 H2 s2' hl2 w2 => ?_⟩
      have s2 := s1.trans s2'
      refine ⟨l1, l2, _, _, rfl, rfl, s2' _ _ w1, w2, small 2 (by decide), fun l3 hl3 => ?_⟩
      have s3 := s2.trans (same_new (o := .lst ([V.str "z"] ++ [V.int ((([] : List V).length : Nat) : Int)])) (Same.refl H2) hl3)
      have w3 : (upd H2 l3 (.lst ([V.str "z"] ++ [V.int ((([] : List V).length : Nat) : Int)]))) l3 = some (.lst ([V.str "z"] ++ [V.int ((([] : List V).length : Nat) : Int)])) := upd_same
      generalize upd H2 l3 (.lst ([V.str "z"] ++ [V.int ((([] : List V).length : Nat) : Int)])) = H3 at s3 w3
      refine ⟨_, rfl, a, c.summon, dx, _, _, rfl, s3 _ _ h, T.ts.cl, N.s_arms, rfl, r, _, rfl, .inl (SqL.of (s3 _ _ hr0)), small 1 (by decide), fun l4 hl4 => ?_⟩
      have s4' := same_new (o := .lst [V.int (vs.length : Nat)]) (Same.refl H3) hl4
      have w4 : (upd H3 l4 (.lst [V.int (vs.length : Nat)])) l4 = some (.lst [V.int (vs.length : Nat)]) := upd_same
      generalize upd H3 l4 (.lst [V.int (vs.length : Nat)]) = H4 at s4' w4
      have s4 := s3.trans s4'
      refine ⟨l3, l4, _, _, rfl, rfl, s4' _ _ w3, w4, small 3 (by decide), fun lt hlt => ?_⟩
      have hlt0 := s4.free hlt
      have s5 := s4.trans (same_new (o := .lst ([V.str "z"] ++ [V.int ((([] : List V).length : Nat) : Int)] ++ [V.int (vs.length : Nat)])) (Same.refl H4) hlt)
      have w5 : (upd H4 lt (.lst ([V.str "z"] ++ [V.int ((([] : List V).length : Nat) : Int)] ++ [V.int (vs.length : Nat)]))) lt = some (.lst ([V.str "z"] ++ [V.int ((([] : List V).length : Nat) : Int)] ++ [V.int (vs.length : Nat)])) := upd_same
      generalize upd H4 lt (.lst ([V.str "z"] ++ [V.int ((([] : List V).length : Nat) : Int)] ++ [V.int (vs.length : Nat)])) = H5 at s5 w5
      have hb : ∀ i, ((arms.take i).map armV).flatten.length ≤ 102 * i := fun i => by
        induction i with
        | zero => exact Nat.zero_le _
        | succ i ih =>
          rw [List.take_add_one, List.map_append, List.flatten_append, List.length_append]
          cases e : arms[i]? with
          | none =>
            have z : ((none : Option ArmT).toList.map armV).flatten.length = 0 := rfl
            rw [z]
            omega
          | some am =>
            have := len_arm (f2 am (List.mem_of_getElem? e))
            have z : ((some am).toList.map armV).flatten.length = (armV am).length := by
              show (armV am ++ []).length = _
              rw [List.append_nil]
            rw [z]
            omega
      refine ⟨_, rfl, a, c.summon, dx, _, _, rfl, s5 _ _ h, T.ts.cl, N.s_arms, rfl, r, rfl, ⟨_, SqL.of (s5 _ _ hr0)⟩, for_list (K := K) (a := r) (xs := vs) (fun i σ H6 => (∃ x2, σ = [some (.ref a), some (.ref lt), x2]) ∧ Same H H6 ∧ H6 lt = some (.lst ((.str "z" :: .int ((0 : Nat) : Int) :: .int (arms.length : Nat) :: ((arms.take i).map armV).flatten)))) ⟨⟨_, rfl⟩, s5, ?_⟩ (fun i σ H6 _ ⟨_, s6, _⟩ => SqL.of (s6 _ _ hr0)) ?_ ?_⟩
      · rw [w5, ha.len]
        rfl
      · rintro i v σ H6 hx ⟨⟨x2, rfl⟩, s6, w6⟩
        obtain ⟨am, eam, hat⟩ := ha.get hx
        have hil : i < arms.length := (List.getElem?_eq_some_iff.mp eam).1
        have hbi := hb i
        have hfa := f2 am (List.mem_of_getElem? eam)
        have hla := len_arm hfa
        have step : ∀ lz H7, Same H6 H7 → H7 lz = some (.lst (armV am)) → (∃ l b xs zs, V.ref lt = .ref l ∧ [V.ref lz] = [.ref b] ∧ H7 l = some (.lst xs) ∧ H7 b = some (.lst zs) ∧ xs.length + zs.length ≤ sizeLine ∧
            ((∃ y2, ([some (.ref a), some (.ref lt), some v] : St) = [some (.ref a), some (.ref lt), y2]) ∧ Same H (upd H7 l (.lst (xs ++ zs))) ∧ (upd H7 l (.lst (xs ++ zs))) lt = some (.lst ((.str "z" :: .int ((0 : Nat) : Int) :: .int (arms.length : Nat) :: ((arms.take (i + 1)).map armV).flatten))))) := fun lz H7 s7 wz => by
          refine ⟨lt, lz, _, _, rfl, rfl, s7 _ _ w6, wz, small _ (by simp only [List.length_cons]; omega), ⟨_, rfl⟩, fun b o hb0 => ?_, ?_⟩
          · rw [upd_ne (ne_of_none hb0 hlt0)]
            exact s7 _ _ (s6 _ _ hb0)
          · rw [upd_same, List.take_add_one, eam, List.map_append, List.flatten_append]
            simp
        cases hat with
        | non =>
          refine ⟨_, rfl, .inl ⟨rfl, _, SqL.of w6⟩, _, rfl, rfl, _, rfl, iteD (fun _ => ?_) (fun z => absurd rfl z)⟩
          refine ⟨small 1 (by decide), fun lz hlz => ?_⟩
          exact step lz _ (same_new (Same.refl H6) hlz) upd_same
        | @arm t g l gs ht hgg =>
          refine ⟨_, rfl, .inl ⟨rfl, _, SqL.of w6⟩, _, rfl, rfl, _, rfl, iteD (fun z => by cases z) (fun _ => ?_)⟩
          refine ⟨_, rfl, t, _, _, _, rfl, rfl, SqT.of (s6 _ _ ht), rfl, small 1 (by decide), fun ly hly => ?_⟩
          have s7 := same_new (o := .lst [V.str l]) (Same.refl H6) hly
          have w7 : (upd H6 ly (.lst [V.str l])) ly = some (.lst [V.str l]) := upd_same
          generalize upd H6 ly (.lst [V.str l]) = H7 at s7 w7
          have s67 := s6.trans s7
          have hgl := hfa l gs rfl
          refine ⟨_, rfl, t, _, _, _, rfl, rfl, SqT.of (s67 _ _ ht), rfl, g, _, rfl, s67 _ _ hgg, by rw [List.length_map]; omega, fun lx H8 s8 hlx w8 => ?_⟩
          refine ⟨ly, lx, _, _, rfl, rfl, s8 _ _ w7, w8, small _ (by simp only [List.length_cons, List.length_nil, List.length_map]; omega), fun lz hlz => ?_⟩
          refine step lz _ ((s7.trans s8).trans (same_new (Same.refl H8) hlz)) ?_
          rw [upd_same, List.length_map]
          rfl
      · rintro σ H6 ⟨⟨x2, rfl⟩, s6, w6⟩
        rw [ha.len, List.take_length] at w6
        refine ⟨_, rfl, a, c.summon, dx, _, _, rfl, s6 _ _ h, T.ts.cl, N.s_mark, rfl, _, rfl, _, m, k, lt, _, rfl, s6 _ _ hm, hf.km, w6, fun v hv => ?_, ?_, fun l9 H9 s9 hl9 h9 => q l9 H9 (s6.trans s9) (s6.free hl9) h9⟩
        · rcases List.mem_cons.mp hv with rfl | hv
          · exact .str _
          rcases List.mem_cons.mp hv with rfl | hv
          · exact .int _ (sm_nat (by decide))
          rcases List.mem_cons.mp hv with rfl | hv
          · exact .int _ (sm_nat (by omega))
          obtain ⟨l, hl, hv⟩ := List.mem_flatten.mp hv
          obtain ⟨am, ham, rfl⟩ := List.mem_map.mp hl
          exact wd_arm (f2 am ham) v hv
        · have z := hb arms.length
          rw [List.take_length] at z
          simp only [List.length_cons]
          omega
    | _ => cases hp
end
end K45
set_option maxRecDepth 100000
namespace K45
open PySem L2
abbrev sCell : Stmt := top 30
abbrev sMix : Stmt := top 31
abbrev sFig : Stmt := top 32
abbrev sAtoms : Stmt := top 33
inductive StepN (c : Cs) (B : Addr → Prop) (H : Hp) : V → Int → Stp → Prop where
  | label {a dx m : Addr} {k : Int} {l : Str} (ba : B a) (bm : B m) (h : H a = some (.ins c.label dx [("mark", .ref m), ("label", .str l)])) (hm : markAt H m k) : StepN c B H (.ref a) k (.label l)
  | jump {a dx m : Addr} {k : Int} {l : Str} (ba : B a) (bm : B m) (h : H a = some (.ins c.jump dx [("mark", .ref m), ("label", .str l)])) (hm : markAt H m k) : StepN c B H (.ref a) k (.jump l)
  | ret {a dx m g : Addr} {k way : Int} {ats : List Key} (ba : B a) (bm : B m) (bg : B g) (h : H a = some (.ins c.ret dx [("mark", .ref m), ("way", .int way), ("atoms", .ref g)])) (hm : markAt H m k) (hg : H g = some (.lst (ats.map kV))) : StepN c B H (.ref a) k (.ret way ats)
  | tell {a dx m : Addr} {k : Int} (ba : B a) (bm : B m) (h : H a = some (.ins c.tell dx [("mark", .ref m), ("atom", .str "a")])) (hm : markAt H m k) : StepN c B H (.ref a) k .tell
  | move {a dx m : Addr} {k n : Int} (ba : B a) (bm : B m) (h : H a = some (.ins c.move dx [("mark", .ref m), ("goal", .str "a"), ("atom", .int n)])) (hm : markAt H m k) : StepN c B H (.ref a) k (.move n)
  | summon {a dx m g r : Addr} {k : Int} {vs : List V} {arms : List ArmT} (ba : B a) (bm : B m) (bg : B g) (br : B r) (h : H a = some (.ins c.summon dx [("mark", .ref m), ("callee", .str "z"), ("atoms", .ref g), ("arms", .ref r)])) (hm : markAt H m k) (hg : H g = some (.lst [])) (hr : H r = some (.lst vs)) (len : vs.length = arms.length)
      (ha : ∀ (i : Nat) (v : V) (a : ArmT), vs[i]? = some v → arms[i]? = some a → ArmN B H v a) : StepN c B H (.ref a) k (.summon arms)
inductive StepsN (c : Cs) (B : Addr → Prop) (H : Hp) : List V → List (Int × Stp) → Prop where
  | nil : StepsN c B H [] []
  | cons {v : V} {vs : List V} {k : Int} {s : Stp} {ss : List (Int × Stp)} (h : StepN c B H v k s) (t : StepsN c B H vs ss) : StepsN c B H (v :: vs) ((k, s) :: ss)
section
variable {c : Cs} {B B' : Addr → Prop} {H H' : Hp}
theorem StepN.keep (hB : ∀ x o, B x → H x = some o → B' x ∧ H' x = some o) {v : V} {k : Int} {s : Stp} (h : StepN c B H v k s) : StepN c B' H' v k s := by
  cases h with
  | label ba bm h hm => exact .label (hB _ _ ba h).1 (hB _ _ bm hm).1 (hB _ _ ba h).2 (hB _ _ bm hm).2
  | jump ba bm h hm => exact .jump (hB _ _ ba h).1 (hB _ _ bm hm).1 (hB _ _ ba h).2 (hB _ _ bm hm).2
  | ret ba bm bg h hm hg => exact .ret (hB _ _ ba h).1 (hB _ _ bm hm).1 (hB _ _ bg hg).1 (hB _ _ ba h).2 (hB _ _ bm hm).2 (hB _ _ bg hg).2
  | tell ba bm h hm => exact .tell (hB _ _ ba h).1 (hB _ _ bm hm).1 (hB _ _ ba h).2 (hB _ _ bm hm).2
  | move ba bm h hm => exact .move (hB _ _ ba h).1 (hB _ _ bm hm).1 (hB _ _ ba h).2 (hB _ _ bm hm).2
  | summon ba bm bg br h hm hg hr len ha => exact .summon (hB _ _ ba h).1 (hB _ _ bm hm).1 (hB _ _ bg hg).1 (hB _ _ br hr).1 (hB _ _ ba h).2 (hB _ _ bm hm).2 (hB _ _ bg hg).2 (hB _ _ br hr).2 len fun i v a e1 e2 => (ha i v a e1 e2).keep hB
theorem StepN.at {v : V} {k : Int} {s : Stp} (h : StepN c B H v k s) : StepAt c H v k s := by
  cases h with
  | label ba bm h hm => exact .label h hm
  | jump ba bm h hm => exact .jump h hm
  | ret ba bm bg h hm hg => exact .ret h hm hg
  | tell ba bm h hm => exact .tell h hm
  | move ba bm h hm => exact .move h hm
  | summon ba bm bg br h hm hg hr len ha => exact .summon h hm hg hr (ArmsAt.of len fun i v a e1 e2 => (ha i v a e1 e2).at)
theorem StepsN.keep (hB : ∀ x o, B x → H x = some o → B' x ∧ H' x = some o) : ∀ {vs : List V} {ss : Sts}, StepsN c B H vs ss → StepsN c B' H' vs ss
  | _, _, .nil => .nil
  | _, _, .cons h t => .cons (h.keep hB) (t.keep hB)
theorem StepsN.at : ∀ {vs : List V} {ss : Sts}, StepsN c B H vs ss → StepsAt c H vs ss
  | _, _, .nil => .nil
  | _, _, .cons h t => .cons h.at t.at
theorem StepsN.len : ∀ {vs : List V} {ss : Sts}, StepsN c B H vs ss → vs.length = ss.length
  | _, _, .nil => rfl
  | _, _, .cons _ t => by rw [List.length_cons, List.length_cons, t.len]
theorem StepsN.ins : ∀ {vs : List V} {ss : Sts} {v : V} {k : Int} {s : Stp} (i : Nat), StepsN c B H vs ss → StepN c B H v k s → StepsN c B H (vs.take i ++ v :: vs.drop i) (ss.take i ++ (k, s) :: ss.drop i)
  | _, _, _, _, _, 0, t, h => by
    simp only [List.take_zero, List.drop_zero, List.nil_append]
    exact .cons h t
  | _, _, _, _, _, _ + 1, .nil, h => by
    simp only [List.take_nil, List.drop_nil, List.nil_append]
    exact .cons h .nil
  | _, _, _, _, _, i + 1, .cons h0 t, h => by
    simp only [List.take_succ_cons, List.drop_succ_cons, List.cons_append]
    exact .cons h0 (StepsN.ins i t h)
end
def goalOk (gs : List Str) : Prop := gs.length ≤ 2 ∧ ∀ z ∈ gs, z = "a" ∨ z = "b"
def atomsL : List (List Str) := [[], ["a"], ["b"], ["a", "b"], ["b", "a"], ["a", "a"]]
theorem atomsL_ok : ∀ gs ∈ atomsL, goalOk gs := by
  intro gs h
  simp only [atomsL, List.mem_cons, List.not_mem_nil, or_false] at h
  rcases h with rfl | rfl | rfl | rfl | rfl | rfl <;> exact ⟨by decide, by decide +kernel⟩
theorem goalOk.strsK {gs : List Str} (h : goalOk gs) : strsK gs := fun z hz => by
  rcases h.2 z hz with rfl | rfl <;> decide +kernel
def spCell (K : PySem.W.Frag) : Sp := fun vs H Q _ => ∃ (a : Addr) (ns : List Int) (i : Int), vs = [.ref a, .int i] ∧ SqL K H a (ns.map V.int) ∧ 0 ≤ i ∧ ∀ n, Q (.int n) H
def spMix : Sp := fun vs H Q _ => ∃ c k : Int, vs = [.int c, .int k] ∧ 0 ≤ k ∧ k ≤ 100 ∧ ∀ n : Int, 0 ≤ n → Q (.int n) H
def spFig : Sp := fun vs H Q _ => ∃ c k m : Int, vs = [.int c, .int k, .int m] ∧ 0 ≤ k ∧ k ≤ 100 ∧ 0 < m ∧ ∀ n : Nat, (n : Int) < m → ∀ H', Same H H' → Q (.int (n : Nat)) H'
def spAtoms : Sp := fun vs H Q _ => ∃ n : Nat, vs = [.int (n : Nat)] ∧ n < 6 ∧ ∀ (l : Addr) (gs : List Str) H', Same H H' → H l = none → H' l = some (.lst (gs.map V.str)) → atomsL[n]? = some gs → Q (.ref l) H'
def putL (es : List Expr) : List Stmt → List Stmt
  | [.Return (some (.Subscript (.List _ q) ix p1)) p2] => [.Return (some (.Subscript (.List es q) ix p1)) p2]
  | l => l
def litL : List Expr := match defBody sAtoms with
  | [.Return (some (.Subscript (.List es _) _ _)) _] => es
  | _ => []
theorem putL_same : putL litL (defBody sAtoms) = defBody sAtoms := rfl
section
variable {P : Program} {w : World} {K : PySem.W.Frag} {mg : Str → Option Value} {base : Heap} {c : Cs}
theorem scCell : FnScope ["_law_script", "_law_k"] ["_law_script", "_law_k"] (defScope sCell) := ⟨rfl, rfl, rfl, by decide +kernel, rfl, by decide +kernel, by decide +kernel⟩
theorem scMix : FnScope ["_law_cell", "_law_k", "_law_number"] ["_law_cell", "_law_k"] (defScope sMix) := ⟨rfl, rfl, rfl, by decide +kernel, rfl, by decide +kernel, by decide +kernel⟩
theorem scFig : FnScope ["_law_cell", "_law_k", "_law_many"] ["_law_cell", "_law_k", "_law_many"] (defScope sFig) := ⟨rfl, rfl, rfl, by decide +kernel, rfl, by decide +kernel, by decide +kernel⟩
theorem scAtoms : FnScope ["_law_number"] ["_law_number"] (defScope sAtoms) := ⟨rfl, rfl, rfl, by decide +kernel, rfl, by decide +kernel, by decide +kernel⟩
set_option maxHeartbeats 4000000 in
theorem ok_cell {g : Addr} {gd : FuncData} (F : Fun K "_law_cell_at" "_law_cell_at" sCell g gd) (T : Isi K mg c) : FnOk P w K mg base CX0 1 g gd ["_law_script", "_law_k"] (spCell K) := by
  refine F.ok scCell (fun vs H Q E h => ?_) (fun cdv A outer s H vs Q E hr h => ?_)
  · obtain ⟨a, ns, i, rfl, _⟩ := h
    rfl
  · obtain ⟨a, ns, i, rfl, hS, i0, k⟩ := h
    refine ⟨_, pss_cons (ps_if (pt_cmpR op_lt (pv 1) (pe_callB call_len_seq (by rfl) T.len PySem.boot_len (pa_cons (pv 0) pa_nil)) (nomark _)) (pss_one (ps_ret (pe_ix ix_list (pv 0) (pv 1) (fun _ _ => rfl)))) pss_nil)
      (pss_one (ps_ret pe_int)), ?_⟩
    refine ⟨_, rfl, _, rfl, a, _, rfl, .inl hS, _, _, rfl, rfl, _, rfl, iteD (fun h => ?_) (fun h => ?_)⟩
    · rw [List.length_map] at h
      obtain ⟨n, e⟩ := atI_int i0 h
      exact ⟨_, rfl, _, rfl, a, _, i, _, rfl, rfl, hS, e, k _⟩
    · exact k _
set_option maxHeartbeats 4000000 in
theorem ok_mix {g : Addr} {gd : FuncData} (F : Fun K "_law_mix" "_law_mix" sMix g gd) : FnOk P w K mg base CX0 1 g gd ["_law_cell", "_law_k"] spMix := by
  refine F.ok scMix (fun vs H Q E h => ?_) (fun cdv A outer s H vs Q E hr h => ?_)
  · obtain ⟨c, k, rfl, _⟩ := h
    rfl
  · obtain ⟨c, n, rfl, n0, n1, k⟩ := h
    refine ⟨_, pss_cons (ps_set (i := 2) scMix.nd rfl (Or.inl rfl) (pe_op op_mod (pe_op op_mul (pe_op op_add (pe_op op_add (pe_op op_mod (pv 0) pe_int) (pe_op op_mul pe_int (pv 1))) pe_int) pe_int) pe_int))
      (pss_cons (ps_set (i := 2) scMix.nd rfl (Or.inl rfl) (pe_op op_mod (pe_op op_mul (pv 2) (pv 2)) pe_int))
      (pss_one (ps_ret (pe_op op_mod (pe_op op_mod (pe_op op_mul (pv 2) (pe_op op_add (pv 2) pe_int)) pe_int) pe_int)))), ?_⟩
    have bnd : ∀ x : Int, 0 ≤ x % 2147483629 ∧ x % 2147483629 < 2147483629 := fun x => by omega
    have bnd2 : ∀ x : Int, 0 ≤ x % 2147483647 ∧ x % 2147483647 < 2147483647 := fun x => by omega
    have cm : ∀ i j : Int, 0 ≤ i → i < 2147483648 → CMul i j := fun i j h1 h2 => .inl ⟨by omega, by omega⟩
    refine ⟨_, rfl, _, _, rfl, rfl, (by show (0 : Int) < _; decide), _, rfl, _, _, rfl, rfl, .inl ⟨by decide, by decide⟩, _, _, rfl, rfl, _, _, rfl, rfl, _, _, rfl, rfl, .inr ⟨by decide, by decide⟩, _, _, rfl, rfl, (by show (0 : Int) < _; decide), ?_⟩
    refine ⟨_, rfl, _, rfl, _, _, rfl, rfl, cm _ _ (bnd _).1 (by have := (bnd ((c % 2147483647 + 7919 * n + 17) * 48271)).2; omega), _, _, rfl, rfl, (by show (0 : Int) < _; decide), ?_⟩
    refine ⟨_, rfl, _, rfl, _, _, rfl, rfl, _, _, rfl, rfl, cm _ _ (bnd2 _).1 (by have := (bnd2 ((c % 2147483647 + 7919 * n + 17) * 48271 % 2147483629 * ((c % 2147483647 + 7919 * n + 17) * 48271 % 2147483629))).2; omega), _, _, rfl, rfl, (by show (0 : Int) < _; decide), _, _, rfl, rfl, (by show (0 : Int) < _; decide), ?_⟩
    exact k _ (by omega)
theorem nat_of {x m : Int} (h : 0 < m) : ∃ n : Nat, x % m = (n : Int) ∧ (n : Int) < m := by
  have h1 := Int.emod_nonneg x (by omega : m ≠ 0)
  have h2 := Int.emod_lt_of_pos x h
  exact ⟨(x % m).toNat, by omega, by omega⟩
set_option maxHeartbeats 4000000 in
theorem ok_fig {g : Addr} {gd : FuncData} (F : Fun K "_law_figure" "_law_figure" sFig g gd) (O : One P w K mg base 1 "_law_mix" ["_law_cell", "_law_k"] spMix) : FnOk P w K mg base CX0 2 g gd ["_law_cell", "_law_k", "_law_many"] spFig := by
  obtain ⟨g1, d1, m1, k1, b1, G1⟩ := O.is
  refine F.ok scFig (fun vs H Q E h => ?_) (fun cdv A outer s H vs Q E hr h => ?_)
  · obtain ⟨c, k, m, rfl, _⟩ := h
    rfl
  · obtain ⟨c, k, m, rfl, k0, k1', hm, q⟩ := h
    have hr1 : Room 1 _ := hr.mono (by decide)
    refine ⟨_, pss_cons (ps_if (PW.pt (pw_and (pt_cmpR op_eq (pe_op op_mod (pv 0) pe_int) pe_int (nomark _)) (pw_and1 (pt_cmpR op_gt (pe_op op_shr (pe_op op_fdiv (pv 0) pe_int) (pe_op op_mul pe_int (pv 1))) pe_int (nomark _)))))
        (pss_one (ps_ret (pe_op op_mod (pe_op op_mod (pe_op op_shr (pe_op op_fdiv (pv 0) pe_int) (pe_op op_mul pe_int (pv 1))) pe_int) (pv 2)))) pss_nil)
      (pss_one (ps_ret (pe_op op_mod (pe_call G1 hr1 (by rfl) m1 k1 b1 .nil pass0 (pa_cons (pv 0) (pa_cons (pv 1) pa_nil))) (pv 2)))), ?_⟩
    have fin : ∀ x : Int, Q (.int (x % m)) H := fun x => by
      obtain ⟨n, e, hn⟩ := nat_of (x := x) hm
      rw [e]
      exact q n hn H (Same.refl H)
    have last : ∃ v, ([some (.int c), some (.int k), some (.int m)] : St)[0]? = some (some v) ∧ True := ⟨_, rfl, trivial⟩
    refine ⟨_, rfl, _, _, rfl, rfl, (by show (0 : Int) < _; decide), rfl, _, rfl, iteI (fun e => ?_) (fun e => ?_)⟩
    · refine ⟨_, rfl, _, _, rfl, rfl, ⟨by decide, by decide⟩, _, rfl, _, _, rfl, rfl, .inl ⟨by decide, by decide⟩, _, _, rfl, rfl, (by show (0 : Int) ≤ 6 * k; omega), _, _, rfl, rfl, _, rfl, iteD (fun e2 => ?_) (fun e2 => ?_)⟩
      · exact ⟨_, rfl, _, _, rfl, rfl, ⟨by decide, by decide⟩, _, rfl, _, _, rfl, rfl, .inl ⟨by decide, by decide⟩, _, _, rfl, rfl, (by show (0 : Int) ≤ 6 * k; omega), _, _, rfl, rfl, (by show (0 : Int) < _; decide), _, rfl, _, _, rfl, rfl, hm, fin _⟩
      · exact ⟨_, rfl, _, rfl, c, k, rfl, k0, k1', fun n hn => ⟨_, rfl, _, _, rfl, rfl, hm, fin n⟩⟩
    · refine iteF ?_
      exact ⟨_, rfl, _, rfl, c, k, rfl, k0, k1', fun n hn => ⟨_, rfl, _, _, rfl, rfl, hm, fin n⟩⟩
set_option maxHeartbeats 8000000 in
theorem ok_atoms {g : Addr} {gd : FuncData} (F : Fun K "_law_atoms" "_law_atoms" sAtoms g gd) : FnOk P w K mg base CX0 1 g gd ["_law_number"] spAtoms := by
  refine F.ok scAtoms (fun vs H Q E h => ?_) (fun cdv A outer s H vs Q E hr h => ?_)
  · obtain ⟨n, rfl, _⟩ := h
    rfl
  · obtain ⟨n, rfl, hn, q⟩ := h
    rw [← putL_same]
    suffices key : ∀ (a0 a1 a2 a3 a4 a5 : List Expr) (q0 q1 q2 q3 q4 q5 : Pos), PE (cxOf CX0 P w K mg base ["_law_number"] "_law_atoms" (defScope sAtoms) g cdv A outer s H E).nox (.List a0 q0) (tLst tNil) → PE (cxOf CX0 P w K mg base ["_law_number"] "_law_atoms" (defScope sAtoms) g cdv A outer s H E).nox (.List a1 q1) (tLst (tCons (tC (.str "a")) tNil)) → PE (cxOf CX0 P w K mg base ["_law_number"] "_law_atoms" (defScope sAtoms) g cdv A outer s H E).nox (.List a2 q2) (tLst (tCons (tC (.str "b")) tNil)) → PE (cxOf CX0 P w K mg base ["_law_number"] "_law_atoms" (defScope sAtoms) g cdv A outer s H E).nox (.List a3 q3) (tLst (tCons (tC (.str "a")) (tCons (tC (.str "b")) tNil))) → PE (cxOf CX0 P w K mg base ["_law_number"] "_law_atoms" (defScope sAtoms) g cdv A outer s H E).nox (.List a4 q4) (tLst (tCons (tC (.str "b")) (tCons (tC (.str "a")) tNil))) → PE (cxOf CX0 P w K mg base ["_law_number"] "_law_atoms" (defScope sAtoms) g cdv A outer s H E).nox (.List a5 q5) (tLst (tCons (tC (.str "a")) (tCons (tC (.str "a")) tNil))) →
        ∃ t, PSs (cxOf CX0 P w K mg base ["_law_number"] "_law_atoms" (defScope sAtoms) g cdv A outer s H E).nox (putL [.List a0 q0, .List a1 q1, .List a2 q2, .List a3 q3, .List a4 q4, .List a5 q5] (defBody sAtoms)) t ∧ t { nx := fun _ H' => Q .non H', rt := Q } (L2.start ["_law_number"] [.int (n : Nat)]) H from
      key _ _ _ _ _ _ _ _ _ _ _ _ (pe_lst pa_nil) (pe_lst (pa_cons pe_str pa_nil)) (pe_lst (pa_cons pe_str pa_nil)) (pe_lst (pa_cons pe_str (pa_cons pe_str pa_nil))) (pe_lst (pa_cons pe_str (pa_cons pe_str pa_nil))) (pe_lst (pa_cons pe_str (pa_cons pe_str pa_nil)))
    intro a0 a1 a2 a3 a4 a5 q0 q1 q2 q3 q4 q5 p0 p1 p2 p3 p4 p5
    refine ⟨_, pss_one (ps_ret (pe_ix ix_list (pe_lst (pa_cons p0 (pa_cons p1 (pa_cons p2 (pa_cons p3 (pa_cons p4 (pa_cons p5 pa_nil))))))) (pv 0) (fun _ _ => rfl))), ?_⟩
    refine ⟨small 0 (by decide), fun l0 h0 => ⟨small 1 (by decide), fun l1 h1 => ⟨small 1 (by decide), fun l2 h2 => ⟨small 2 (by decide), fun l3 h3 => ⟨small 2 (by decide), fun l4 h4 => ⟨small 2 (by decide), fun l5 h5 => ⟨small 6 (by decide), fun lo hlo => ?_⟩⟩⟩⟩⟩⟩⟩
    have s0 := same_new (o := .lst []) (Same.refl H) h0
    have w0 : (upd H l0 (.lst [])) l0 = some (.lst []) := upd_same
    generalize upd H l0 (.lst []) = H0 at *
    have t1 := same_new (o := .lst [V.str "a"]) (Same.refl H0) h1
    have w1 : (upd H0 l1 (.lst [V.str "a"])) l1 = some (.lst [V.str "a"]) := upd_same
    generalize upd H0 l1 (.lst [V.str "a"]) = H1 at *
    have t2 := same_new (o := .lst [V.str "b"]) (Same.refl H1) h2
    have w2 : (upd H1 l2 (.lst [V.str "b"])) l2 = some (.lst [V.str "b"]) := upd_same
    generalize upd H1 l2 (.lst [V.str "b"]) = H2 at *
    have t3 := same_new (o := .lst [V.str "a", V.str "b"]) (Same.refl H2) h3
    have w3 : (upd H2 l3 (.lst [V.str "a", V.str "b"])) l3 = some (.lst [V.str "a", V.str "b"]) := upd_same
    generalize upd H2 l3 (.lst [V.str "a", V.str "b"]) = H3 at *
    have t4 := same_new (o := .lst [V.str "b", V.str "a"]) (Same.refl H3) h4
    have w4 : (upd H3 l4 (.lst [V.str "b", V.str "a"])) l4 = some (.lst [V.str "b", V.str "a"]) := upd_same
    generalize upd H3 l4 (.lst [V.str "b", V.str "a"]) = H4 at *
    have t5 := same_new (o := .lst [V.str "a", V.str "a"]) (Same.refl H4) h5
    have w5 : (upd H4 l5 (.lst [V.str "a", V.str "a"])) l5 = some (.lst [V.str "a", V.str "a"]) := upd_same
    generalize upd H4 l5 (.lst [V.str "a", V.str "a"]) = H5 at *
    have u1 := s0.trans t1
    have u2 := u1.trans t2
    have u3 := u2.trans t3
    have u4 := u3.trans t4
    have s5 := u4.trans t5
    have n1 := s0.free h1
    have n2 := u1.free h2
    have n3 := u2.free h3
    have n4 := u3.free h4
    have n5 := u4.free h5
    have v0 := t5 _ _ (t4 _ _ (t3 _ _ (t2 _ _ (t1 _ _ w0))))
    have v1 := t5 _ _ (t4 _ _ (t3 _ _ (t2 _ _ w1)))
    have v2 := t5 _ _ (t4 _ _ (t3 _ _ w2))
    have v3 := t5 _ _ (t4 _ _ w3)
    have v4 := t5 _ _ w4
    refine ⟨_, rfl, lo, [V.ref l0, .ref l1, .ref l2, .ref l3, .ref l4, .ref l5], ?_⟩
    have s6 := same_new (o := .lst [V.ref l0, .ref l1, .ref l2, .ref l3, .ref l4, .ref l5]) (Same.refl H5) hlo
    have s06 := s5.trans s6
    match n, hn with
    | 0, _ => exact ⟨((0 : Nat) : Int), _, rfl, rfl, SqL.of upd_same, rfl, q l0 [] _ s06 h0 (s6 _ _ v0) rfl⟩
    | 1, _ => exact ⟨((1 : Nat) : Int), _, rfl, rfl, SqL.of upd_same, rfl, q l1 ["a"] _ s06 n1 (s6 _ _ v1) rfl⟩
    | 2, _ => exact ⟨((2 : Nat) : Int), _, rfl, rfl, SqL.of upd_same, rfl, q l2 ["b"] _ s06 n2 (s6 _ _ v2) rfl⟩
    | 3, _ => exact ⟨((3 : Nat) : Int), _, rfl, rfl, SqL.of upd_same, rfl, q l3 ["a", "b"] _ s06 n3 (s6 _ _ v3) rfl⟩
    | 4, _ => exact ⟨((4 : Nat) : Int), _, rfl, rfl, SqL.of upd_same, rfl, q l4 ["b", "a"] _ s06 n4 (s6 _ _ v4) rfl⟩
    | 5, _ => exact ⟨((5 : Nat) : Int), _, rfl, rfl, SqL.of upd_same, rfl, q l5 ["a", "a"] _ s06 n5 (s6 _ _ w5) rfl⟩
end
end K45
set_option maxRecDepth 100000
namespace K45
open PySem L2
abbrev sRow : Stmt := top 34
abbrev sArms : Stmt := top 35
def armOk (labs : List Str) (a : ArmT) : Prop := ∀ l gs, a = some (l, gs) → l ∈ labs ∧ goalOk gs
def rowOk (labs : List Str) : Stp → Prop
  | .label l => l ∈ labs
  | .jump l => l ∈ labs
  | .ret w ats => sm w ∧ ats.length ≤ 100 ∧ (∀ x ∈ ats, smK x ∧ okK x = true)
  | .tell => True
  | .move n => sm n
  | .summon arms => arms.length = 3 ∧ ∀ a ∈ arms, armOk labs a
def labsAt (H : Hp) (la : Addr) (labs : List Str) : Prop := H la = some (.lst (labs.map V.str)) ∧ 0 < labs.length ∧ labs.length ≤ 4
theorem labsAt.same {H H' : Hp} {la : Addr} {labs : List Str} (s : Same H H') (h : labsAt H la labs) : labsAt H' la labs := ⟨s _ _ h.1, h.2⟩
def spRow (c : Cs) : Sp := fun vs H Q _ => ∃ (x : Int) (k : Nat) (la : Addr) (labs : List Str), vs = [.int x, .int (k : Nat), .ref la] ∧ k ≤ 20 ∧ labsAt H la labs ∧ ∀ v s H', Same H H' → StepN c (fun y => H y = none) H' v (k : Nat) s → rowOk labs s → Q v H'
def spArms : Sp := fun vs H Q _ => ∃ (x : Int) (la : Addr) (labs : List Str), vs = [.int x, .ref la] ∧ labsAt H la labs ∧ ∀ l us arms H', Same H H' → H' l = some (.lst us) → ArmsAt H' us arms → arms.length = 3 → (∀ a ∈ arms, armOk labs a) → Q (.ref l) H'
theorem lab_at {labs : List Str} {n : Nat} (h : n < labs.length) : ∃ l, l ∈ labs ∧ atI (labs.map V.str) ((n : Nat) : Int) = some (.str l) := by
  refine ⟨labs[n], List.getElem_mem h, atI_nat ?_⟩
  rw [List.getElem?_map, List.getElem?_eq_getElem h]
  rfl
theorem goal_key {gs : List Str} (h : goalOk gs) : (gs.map (Sum.inr : Str → Key)).length ≤ 100 ∧ ∀ x ∈ gs.map (Sum.inr : Str → Key), smK x ∧ okK x = true := by
  refine ⟨by rw [List.length_map]; have := h.1; omega, fun x hx => ?_⟩
  obtain ⟨z, hz, rfl⟩ := List.mem_map.mp hx
  exact ⟨trivial, h.strsK z hz⟩
section
variable {P : Program} {w : World} {K : PySem.W.Frag} {mg : Str → Option Value} {base : Heap} {c : Cs}
theorem scRow : FnScope ["_law_cell", "_law_k", "_law_labels", "_law_kind", "_law_number", "_law_mark", "_law_atoms_here"] ["_law_cell", "_law_k", "_law_labels"] (defScope sRow) := ⟨rfl, rfl, rfl, by decide +kernel, rfl, by decide +kernel, by decide +kernel⟩
theorem scArms : FnScope ["_law_cell", "_law_labels", "_law_arms_here", "_law_k", "_law_number", "_law_label"] ["_law_cell", "_law_labels"] (defScope sArms) := ⟨rfl, rfl, rfl, by decide +kernel, rfl, by decide +kernel, by decide +kernel⟩
theorem sm_int {i : Int} (h0 : -1000 ≤ i) (h1 : i ≤ 1000) : sm i := by
  unfold sm
  have : (2 : Nat) ^ 100 > 1000 := by decide
  omega
set_option maxHeartbeats 8000000 in
theorem ok_row {g : Addr} {gd : FuncData} (F : Fun K "_law_row" "_law_row" sRow g gd) (T : Isi K mg c) (O1 : One P w K mg base 2 "_law_figure" ["_law_cell", "_law_k", "_law_many"] spFig) (O2 : One P w K mg base 1 "_law_atoms" ["_law_number"] spAtoms)
    (C1 : CMk P w K mg base 2 "Jump" c.jump ["self", "mark", "label"] (spNJump c.jump)) (C2 : CMk P w K mg base 2 "Return" c.ret ["self", "mark", "way", "atoms"] (spNReturn c.ret)) (C3 : CMk P w K mg base 2 "Tell" c.tell ["self", "mark", "atom"] (spNTell c.tell))
    (C4 : CMk P w K mg base 2 "Move" c.move ["self", "mark", "goal", "atom"] (spNMove c.move)) : FnOk P w K mg base CX0 4 g gd ["_law_cell", "_law_k", "_law_labels"] (spRow c) := by
  obtain ⟨g1, d1, m1, k1, b1, G1⟩ := O1.is
  obtain ⟨g2, d2, m2, k2, b2, G2⟩ := O2.is
  obtain ⟨p1, q1, n1, M1, e1, A1⟩ := C1.is
  obtain ⟨p2, q2, n2, M2, e2, A2⟩ := C2.is
  obtain ⟨p3, q3, n3, M3, e3, A3⟩ := C3.is
  obtain ⟨p4, q4, n4, M4, e4, A4⟩ := C4.is
  refine F.ok scRow (fun vs H Q E h => ?_) (fun cdv A outer s H vs Q E hr h => ?_)
  · obtain ⟨x, k, la, labs, rfl, _⟩ := h
    rfl
  · obtain ⟨x, k, la, labs, rfl, hk, hlb, q⟩ := h
    have hr1 : Room 1 _ := hr.mono (by decide)
    have hr2 : Room 2 _ := hr.mono (by decide)
    have hr3 : Room 3 _ := hr.mono (by decide)
    refine ⟨_, pss_cons (ps_set (i := 3) scRow.nd rfl (Or.inl rfl) (pe_call G1 hr2 (by rfl) m1 k1 b1 .nil pass0 (pa_cons (pv 0) (pa_cons (pe_op op_mul pe_int (pv 1)) (pa_cons pe_int pa_nil)))))
      (pss_cons (ps_set (i := 4) scRow.nd rfl (Or.inl rfl) (pe_call G1 hr2 (by rfl) m1 k1 b1 .nil pass0 (pa_cons (pv 0) (pa_cons (pe_op op_add (pe_op op_mul pe_int (pv 1)) pe_int) (pa_cons pe_int pa_nil)))))
      (pss_cons (ps_set (i := 5) scRow.nd rfl (Or.inl rfl) (pe_tup (pa_cons pe_str (pa_cons (pv 1) pa_nil))))
      (pss_cons (ps_if (pt_cmpR op_lt (pv 3) pe_int (nomark _)) (pss_one (ps_ret (pe_make M1 A1 hr3 (by rfl) n1 e1 .nil pass0 (pa_cons (pv 5) (pa_cons (pe_ix ix_list (pv 2) (pe_op op_mod (pv 4) (pe_callB call_len_seq (by rfl) T.len PySem.boot_len (pa_cons (pv 2) pa_nil))) (fun _ _ => rfl)) pa_nil))))) pss_nil)
      (pss_cons (ps_if (pt_cmpR op_lt (pv 3) pe_int (nomark _))
        (pss_cons (ps_set (i := 6) scRow.nd rfl (Or.inl rfl) (pe_call G2 hr1 (by rfl) m2 k2 b2 .nil pass0 (pa_cons (pe_call G1 hr2 (by rfl) m1 k1 b1 .nil pass0 (pa_cons (pv 0) (pa_cons (pe_op op_add (pe_op op_mul pe_int (pv 1)) pe_int) (pa_cons pe_int pa_nil)))) pa_nil)))
        (pss_cons (ps_if (pt_cmpR op_eq (pe_op op_mod (pe_op op_fdiv (pv 4) pe_int) pe_int) pe_int (nomark _)) (pss_one (ps_set (i := 6) scRow.nd rfl (Or.inl rfl) (pe_lst (pa_cons pe_int pa_nil)))) pss_nil)
        (pss_one (ps_ret (pe_make M2 A2 hr3 (by rfl) n2 e2 .nil pass0 (pa_cons (pv 5) (pa_cons (pe_op op_mod (pv 4) pe_int) (pa_cons (pv 6) pa_nil)))))))) pss_nil)
      (pss_cons (ps_if (pt_cmpR op_eq (pv 3) pe_int (nomark _)) (pss_one (ps_ret (pe_make M3 A3 hr3 (by rfl) n3 e3 .nil pass0 (pa_cons (pv 5) (pa_cons pe_str pa_nil))))) pss_nil)
      (pss_one (ps_ret (pe_make M4 A4 hr3 (by rfl) n4 e4 .nil pass0 (pa_cons (pv 5) (pa_cons pe_str (pa_cons (pv 4) pa_nil))))))))))), ?_⟩
    refine ⟨_, rfl, _, rfl, _, _, rfl, rfl, .inl ⟨by decide, by decide⟩, x, _, _, rfl, by omega, by omega, by decide, fun kind hkind H1 s1 => ?_⟩
    refine ⟨_, rfl, _, rfl, _, _, rfl, rfl, .inl ⟨by decide, by decide⟩, _, _, rfl, rfl, x, _, _, rfl, by omega, by omega, by decide, fun num hnum H2 s2' => ?_⟩
    have s2 := s1.trans s2'
    refine ⟨_, rfl, small 2 (by decide), fun m hm => ?_⟩
    have hm0 := s2.free hm
    have s3 := s2.trans (same_new (o := .tup [V.str "z", V.int (k : Nat)]) (Same.refl H2) hm)
    have wm : markAt (upd H2 m (.tup [V.str "z", V.int (k : Nat)])) m (k : Nat) := upd_same
    generalize upd H2 m (.tup [V.str "z", V.int (k : Nat)]) = H3 at s3 wm
    have hlb3 := hlb.same s3
    refine ⟨_, rfl, _, _, rfl, rfl, _, rfl, iteD (fun e => ?_) (fun e => ?_)⟩
    · -- a jump
      obtain ⟨n, en, hn⟩ := nat_of (x := (num : Int)) (m := ((labs.length : Nat) : Int)) (by have := hlb.2.1; omega)
      obtain ⟨l, hl, el⟩ := lab_at (labs := labs) (n := n) (by omega)
      refine ⟨_, rfl, _, rfl, _, rfl, _, rfl, la, _, rfl, .inl (SqL.of hlb3.1), _, _, rfl, rfl, (by show (0 : Int) < ((labs.map V.str).length : Nat); rw [List.length_map]; have := hlb.2.1; omega), la, _, _, V.str l, rfl, rfl, SqL.of hlb3.1, (by rw [List.length_map, en]; exact el), fun x' dx hx hd hne => ?_⟩
      refine ⟨x', dx, _, _, rfl, upd_same, fun H' sd h' => ⟨rfl, ?_⟩⟩
      have sM := mk_same hx hd sd
      exact q _ _ H' (s3.trans sM) (.jump (dx := dx) (s3.free hx) hm0 h' (sM _ _ wm)) hl
    refine ⟨_, rfl, _, _, rfl, rfl, _, rfl, iteD (fun e' => ?_) (fun e' => ?_)⟩
    · -- a return
      refine ⟨_, rfl, _, rfl, _, _, rfl, rfl, .inl ⟨by decide, by decide⟩, _, _, rfl, rfl, x, _, _, rfl, by omega, by omega, by decide, fun na hna H4 s4 => ?_⟩
      refine ⟨na, rfl, by omega, fun lg gs H5 s5 hlg hg egs => ?_⟩
      have s45 := s4.trans s5
      have hgo := atomsL_ok gs (List.mem_of_getElem? egs)
      obtain ⟨kw, ekw, hkw⟩ := nat_of (x := (num : Int)) (m := 3) (by decide)
      have key : ∀ (lz : Addr) (ats : List Key) (H6 : Hp), Same H3 H6 → H6 lz = some (.lst (ats.map kV)) → (ats.length ≤ 100 ∧ ∀ x ∈ ats, smK x ∧ okK x = true) → ∀ x' dx, H6 x' = none → H6 dx = none → dx ≠ x' →
          spNReturn c.ret [.ref x', .ref m, .int ((num : Int) % 3), .ref lz] (upd (upd H6 dx (.own x')) x' (.ins c.ret dx [])) (fun v H2 => v = .non ∧ Q (.ref x') H2) E0 := fun lz ats H6 s6 hz hok x' dx hx hd hne => by
        refine ⟨x', dx, _, _, lz, _, rfl, upd_same, mk_at hx hd hz, fun H' z2 sd h' hz2 hf2 => ⟨rfl, ?_⟩⟩
        have sM := mk_same hx hd sd
        have s36 := s3.trans s6
        refine q _ _ H' (s36.trans sM) (.ret (dx := dx) (s36.free hx) hm0 (s36.free (mk_free hf2)) h' (sM _ _ (s6 _ _ wm)) hz2) ⟨sm_int (by omega) (by omega), hok.1, hok.2⟩
      refine ⟨_, rfl, _, _, rfl, rfl, ⟨by decide, by decide⟩, _, _, rfl, rfl, (by show (0 : Int) < _; decide), rfl, _, rfl, iteI (fun z => ?_) (fun z => ?_)⟩
      · refine ⟨small 1 (by decide), fun l7 h7 => ?_⟩
        have s7 := s45.trans (same_new (o := .lst [V.int 7]) (Same.refl H5) h7)
        refine ⟨_, rfl, _, rfl, _, _, rfl, rfl, (by show (0 : Int) < _; decide), _, rfl, ?_⟩
        refine key l7 [Sum.inl 7] _ s7 upd_same ⟨by decide, fun y hy => ?_⟩
        have ey : y = Sum.inl 7 := by simpa using hy
        subst ey
        exact ⟨sm_int (by decide) (by decide), rfl⟩
      · refine ⟨_, rfl, _, rfl, _, _, rfl, rfl, (by show (0 : Int) < _; decide), _, rfl, ?_⟩
        refine key lg (gs.map Sum.inr) _ s45 (by rw [← goals_kV]; exact hg) (goal_key hgo)
    refine ⟨_, rfl, rfl, _, rfl, iteI (fun z => ?_) (fun z => ?_)⟩
    · refine ⟨_, rfl, fun x' dx hx hd hne => ?_⟩
      refine ⟨x', dx, _, _, rfl, upd_same, fun H' sd h' => ⟨rfl, ?_⟩⟩
      have sM := mk_same hx hd sd
      exact q _ _ H' (s3.trans sM) (.tell (dx := dx) (s3.free hx) hm0 h' (sM _ _ wm)) trivial
    · refine ⟨_, rfl, _, rfl, fun x' dx hx hd hne => ?_⟩
      refine ⟨x', dx, _, _, _, rfl, upd_same, fun H' sd h' => ⟨rfl, ?_⟩⟩
      have sM := mk_same hx hd sd
      exact q _ _ H' (s3.trans sM) (.move (dx := dx) (s3.free hx) hm0 h' (sM _ _ wm)) (sm_int (by omega) (by omega))
theorem set_last (vs : List V) (x y : V) : (vs ++ [x]).set vs.length y = vs ++ [y] := by
  induction vs with
  | nil => rfl
  | cons a r ih => simp [ih]
set_option maxHeartbeats 8000000 in
theorem ok_arms {g : Addr} {gd : FuncData} (F : Fun K "_law_arms" "_law_arms" sArms g gd) (T : Isi K mg c) (O1 : One P w K mg base 2 "_law_figure" ["_law_cell", "_law_k", "_law_many"] spFig) (O2 : One P w K mg base 1 "_law_atoms" ["_law_number"] spAtoms) :
    FnOk P w K mg base CX0 3 g gd ["_law_cell", "_law_labels"] spArms := by
  obtain ⟨g1, d1, m1, k1, b1, G1⟩ := O1.is
  obtain ⟨g2, d2, m2, k2, b2, G2⟩ := O2.is
  refine F.ok scArms (fun vs H Q E h => ?_) (fun cdv A outer s H vs Q E hr h => ?_)
  · obtain ⟨x, la, labs, rfl, _⟩ := h
    rfl
  · obtain ⟨x, la, labs, rfl, hlb, q⟩ := h
    have hr1 : Room 1 _ := hr.mono (by decide)
    have hr2 : Room 2 _ := hr.mono (by decide)
    refine ⟨_, pss_cons (ps_set (i := 2) scArms.nd rfl (Or.inl rfl) (pe_lst pa_nil))
      (pss_cons (ps_for PassesOwn.never rfl (pi_range1 rfl T.rng (pa_cons pe_int pa_nil)) (pg_name (i := 3) scArms.nd rfl (Or.inl rfl))
        (pss_cons (ps_set (i := 4) scArms.nd rfl (Or.inl rfl) (pe_call G1 hr2 (by rfl) m1 k1 b1 .nil pass0 (pa_cons (pv 0) (pa_cons (pe_op op_mul pe_int (pv 3)) (pa_cons pe_int pa_nil)))))
        (pss_cons (ps_set (i := 5) scArms.nd rfl (Or.inl rfl) (pe_ix ix_list (pv 1) (pe_call G1 hr2 (by rfl) m1 k1 b1 .nil pass0 (pa_cons (pv 0) (pa_cons (pe_op op_add (pe_op op_mul pe_int (pv 3)) pe_int) (pa_cons (pe_callB call_len_seq (by rfl) T.len PySem.boot_len (pa_cons (pv 1) pa_nil)) pa_nil)))) (fun _ _ => rfl)))
        (pss_cons (ps_expr (pe_bm PySem.F.plainAttrs_list PySem.F.slot_list_append PySem.F.type_list_append mt_append (pv 2) (pa_cons pe_non pa_nil)))
        (pss_one (ps_if (pt_cmpR op_gt (pv 4) pe_int (nomark _)) (pss_one (ps_asg (pe_tup (pa_cons (pv 5) (pa_cons (pe_call G2 hr1 (by rfl) m2 k2 b2 .nil pass0 (pa_cons (pe_call G1 hr2 (by rfl) m1 k1 b1 .nil pass0 (pa_cons (pv 0) (pa_cons (pe_op op_add (pe_op op_mul pe_int (pv 3)) pe_int) (pa_cons pe_int pa_nil)))) pa_nil)) pa_nil)))
          (pg_sub (pv 2) (pe_un un_neg pe_int) set_list))) pss_nil))))))
      (pss_one (ps_ret (pv 2)))), ?_⟩
    refine ⟨small 0 (by decide), fun l0 hl0 => ?_⟩
    have s0 := same_new (o := .lst []) (Same.refl H) hl0
    refine ⟨3, rfl, by decide, by decide, for_range (n := 3) (fun i σ H2 => (∃ x3 x4 x5, σ = [some (.int x), some (.ref la), some (.ref l0), x3, x4, x5]) ∧ Same H H2 ∧ ∃ us arms, H2 l0 = some (.lst us) ∧ us.length = i ∧ arms.length = i ∧ (∀ (j : Nat) (v : V) (a : ArmT), us[j]? = some v → arms[j]? = some a → ArmN (fun y => y ≠ l0) H2 v a) ∧ ∀ a ∈ arms, armOk labs a) ⟨⟨_, _, _, rfl⟩, s0, [], [], upd_same, rfl, rfl, fun j v a e => (by simp at e), fun a ha => (by cases ha)⟩ ?_ ?_⟩
    · rintro i σ H2 hi ⟨⟨x3, x4, x5, rfl⟩, s2, us, arms, hus, eu, ea, hA, hO⟩
      refine ⟨_, rfl, _, rfl, _, _, rfl, rfl, .inl ⟨by decide, by decide⟩, x, _, _, rfl, by omega, by omega, by decide, fun num hnum H3 s3 => ?_⟩
      have s03 := s2.trans s3
      have hlb3 := hlb.same s03
      refine ⟨_, rfl, _, rfl, _, rfl, _, _, rfl, rfl, .inl ⟨by decide, by decide⟩, _, _, rfl, rfl, _, rfl, la, _, rfl, .inl (SqL.of hlb3.1), x, _, _, rfl, by omega, by omega, (by rw [List.length_map]; have := hlb.2.1; omega), fun nl hnl H4 s4 => ?_⟩
      have s04 := s03.trans s4
      have hlb4 := hlb.same s04
      rw [List.length_map] at hnl
      obtain ⟨l, hl, el⟩ := lab_at (labs := labs) (n := nl) (by omega)
      refine ⟨la, _, _, _, rfl, rfl, SqL.of hlb4.1, el, ?_⟩
      have hus4 := s4 _ _ (s3 _ _ hus)
      refine ⟨_, rfl, .inl ⟨rfl, _, SqL.of hus4⟩, l0, us, .non, rfl, rfl, hus4, smallT _ (by omega), ?_⟩
      have s5 : Same H (upd H4 l0 (.lst (us ++ [.non]))) := fun b o hb => by
        rw [upd_ne (ne_of_none hb hl0)]
        exact s04 _ _ hb
      have w5 : (upd H4 l0 (.lst (us ++ [.non]))) l0 = some (.lst (us ++ [.non])) := upd_same
      have k5 : ∀ y o, y ≠ l0 → H2 y = some o → (upd H4 l0 (.lst (us ++ [.non]))) y = some o := fun y o n h => by
        rw [upd_ne n]
        exact s4 _ _ (s3 _ _ h)
      generalize upd H4 l0 (.lst (us ++ [.non])) = H5 at s5 w5 k5
      have grow : ∀ (v : V) (a : ArmT) (H6 : Hp), (∀ y o, y ≠ l0 → H2 y = some o → H6 y = some o) → ArmN (fun y => y ≠ l0) H6 v a → armOk labs a → ((∀ (j : Nat) (u : V) (b : ArmT), (us ++ [v])[j]? = some u → (arms ++ [a])[j]? = some b → ArmN (fun y => y ≠ l0) H6 u b) ∧ ∀ b ∈ arms ++ [a], armOk labs b) := fun v a H6 k6 hv ho => by
        refine ⟨fun j u b e1 e2 => ?_, fun b hb => ?_⟩
        · rcases Nat.lt_or_ge j i with hj | hj
          · rw [List.getElem?_append_left (by omega)] at e1 e2
            exact (hA j u b e1 e2).keep fun y o hy h => ⟨hy, k6 y o hy h⟩
          · have hj1 : j < (us ++ [v]).length := (List.getElem?_eq_some_iff.mp e1).1
            rw [List.length_append] at hj1
            have ej : j = i := by simp at hj1; omega
            subst ej
            rw [List.getElem?_append_right (by omega), eu, Nat.sub_self] at e1
            rw [List.getElem?_append_right (by omega), ea, Nat.sub_self] at e2
            cases e1
            cases e2
            exact hv
        · rcases List.mem_append.mp hb with hb | hb
          · exact hO b hb
          · have : b = a := by simpa using hb
            subst this
            exact ho
      refine ⟨_, rfl, _, _, rfl, rfl, _, rfl, iteD (fun e => ?_) (fun e => ?_)⟩
      · refine ⟨_, rfl, _, rfl, _, rfl, _, _, rfl, rfl, .inl ⟨by decide, by decide⟩, _, _, rfl, rfl, x, _, _, rfl, by omega, by omega, by decide, fun na hna H6 s6 => ?_⟩
        refine ⟨na, rfl, by omega, fun lg gs H7 s7 hlg hg egs => ?_⟩
        have hgo := atomsL_ok gs (List.mem_of_getElem? egs)
        have s57 := s6.trans s7
        refine ⟨small 2 (by decide), fun t ht => ?_⟩
        have s8 := s57.trans (same_new (o := .tup [V.str l, V.ref lg]) (Same.refl H7) ht)
        have wt : (upd H7 t (.tup [V.str l, V.ref lg])) t = some (.tup [V.str l, V.ref lg]) := upd_same
        have wg : (upd H7 t (.tup [V.str l, V.ref lg])) lg = some (.lst (gs.map V.str)) := by rw [upd_ne (ne_of_none hg ht)]; exact hg
        have nlg : lg ≠ l0 := fun z => by rw [z] at hlg; rw [s6 _ _ w5] at hlg; cases hlg
        have nt : t ≠ l0 := fun z => by rw [z] at ht; rw [s57 _ _ w5] at ht; cases ht
        generalize upd H7 t (.tup [V.str l, V.ref lg]) = H8 at s8 wt wg
        have hix : ixN (us ++ [V.non]).length (-1) = some us.length := by
          unfold ixN
          rw [if_neg (by decide), List.length_append]
          simp
          omega
        refine ⟨_, rfl, _, rfl, l0, us ++ [.non], -1, us.length, rfl, rfl, s8 _ _ w5, hix, ?_⟩
        rw [set_last]
        have kk : ∀ y o, y ≠ l0 → H2 y = some o → (upd H8 l0 (.lst (us ++ [V.ref t]))) y = some o := fun y o n h => by
          rw [upd_ne n]
          exact s8 _ _ (k5 y o n h)
        obtain ⟨gr1, gr2⟩ := grow (.ref t) (some (l, gs)) _ kk (.arm nt nlg (by rw [upd_ne nt]; exact wt) (by rw [upd_ne nlg]; exact wg)) (fun l' gs' z => by cases z; exact ⟨hl, hgo⟩)
        refine ⟨⟨_, _, _, rfl⟩, fun b o hb => ?_, us ++ [.ref t], arms ++ [some (l, gs)], upd_same, ?_, ?_, gr1, gr2⟩
        · rw [upd_ne (ne_of_none hb hl0)]
          exact s8 _ _ (s5 _ _ hb)
        · rw [List.length_append, eu]; rfl
        · rw [List.length_append, ea]; rfl
      · obtain ⟨gr1, gr2⟩ := grow .non none H5 k5 .non (fun l' gs' z => by cases z)
        refine ⟨⟨_, _, _, rfl⟩, s5, us ++ [.non], arms ++ [none], w5, ?_, ?_, gr1, gr2⟩
        · rw [List.length_append, eu]; rfl
        · rw [List.length_append, ea]; rfl
    · rintro σ H2 ⟨⟨x3, x4, x5, rfl⟩, s2, us, arms, hus, eu, ea, hA, hO⟩
      exact ⟨_, rfl, q l0 us arms H2 s2 hus (ArmsAt.of (by omega) fun i v a e1 e2 => (hA i v a e1 e2).at) ea hO⟩
end
end K45
set_option maxRecDepth 100000
namespace K45
open PySem L2
abbrev sPiece : Stmt := top 36
def labN (i : Nat) : Str := "l" ++ (toString ((0 : Int) + (i : Nat)) : Str)
theorem labN_len : ∀ i : Nat, i < 4 → (("l" : Str).length + (toString ((0 : Int) + (i : Nat)) : Str).length ≤ 5000) := by
  intro i h
  match i, h with
  | 0, _ => decide +kernel
  | 1, _ => decide +kernel
  | 2, _ => decide +kernel
  | 3, _ => decide +kernel
theorem steps_choose {c : Cs} {B : Addr → Prop} {H : Hp} {p : Int → Stp → Prop} : ∀ {vs : List V}, (∀ (i : Nat) (v : V), vs[i]? = some v → ∃ k s, StepN c B H v k s ∧ p k s) → ∃ ss : Sts, StepsN c B H vs ss ∧ ∀ q ∈ ss, p q.1 q.2
  | [], _ => ⟨[], .nil, fun q hq => by cases hq⟩
  | v :: vs, h => by
    obtain ⟨k, s, h1, h2⟩ := h 0 v rfl
    obtain ⟨ss, h3, h4⟩ := steps_choose fun i u e => h (i + 1) u e
    refine ⟨(k, s) :: ss, .cons h1 h3, fun q hq => ?_⟩
    rcases List.mem_cons.mp hq with rfl | hq
    · exact h2
    · exact h4 q hq
theorem mem_ins {α : Type} {xs : List α} {i : Nat} {x y : α} : y ∈ xs.take i ++ x :: xs.drop i ↔ y = x ∨ y ∈ xs := by
  constructor
  · intro h
    rcases List.mem_append.mp h with h | h
    · exact .inr (List.mem_of_mem_take h)
    · rcases List.mem_cons.mp h with h | h
      · exact .inl h
      · exact .inr (List.mem_of_mem_drop h)
  · rintro (rfl | h)
    · exact List.mem_append.mpr (.inr (List.mem_cons_self ..))
    · rw [← List.take_append_drop i xs] at h
      rcases List.mem_append.mp h with h | h
      · exact List.mem_append.mpr (.inl h)
      · exact List.mem_append.mpr (.inr (List.mem_cons_of_mem _ h))
theorem len_ins {α : Type} {xs : List α} {i : Nat} {x : α} : (xs.take i ++ x :: xs.drop i).length = xs.length + 1 := by
  rw [List.length_append, List.length_cons, List.length_take, List.length_drop]
  omega
theorem spot_mem {ss : Sts} {k : Int} {l : Str} (h : (k, Stp.label l) ∈ ss) : (spotO ss l).isSome = true := by
  obtain ⟨i, hi⟩ := List.mem_iff_getElem?.mp h
  have hl : labAt ss i = some l := labAt_of hi
  obtain ⟨j, hj⟩ := spotN_has hl (labAt_lt hl)
  exact Option.isSome_iff_exists.mpr ⟨j, hj⟩
theorem armFit_of {labs : List Str} {a : ArmT} (h : armOk labs a) : armFit a := fun l gs e => by
  have := (h l gs e).2.1
  omega
theorem good_of {labs : List Str} {ss : Sts} (h1 : ∀ p ∈ ss, rowOk labs p.2 ∧ sm p.1) (h2 : ∀ l ∈ labs, ∃ k, (k, Stp.label l) ∈ ss) (h3 : ss.length ≤ 100) : Good ss ∧ ∀ (i : Nat) (k : Int) (s : Stp), ss[i]? = some (k, s) → Fit k s := by
  have sp : ∀ l ∈ labs, (spotO ss l).isSome = true := fun l hl => by
    obtain ⟨k, hk⟩ := h2 l hl
    exact spot_mem hk
  have ro : ∀ {i : Nat} {k : Int} {s : Stp}, ss[i]? = some (k, s) → rowOk labs s ∧ sm k := fun e => h1 _ (List.mem_of_getElem? e)
  refine ⟨⟨fun i k l e => sp l (ro e).1, fun i k as e l gs m => sp l (((ro e).1.2 _ m) l gs rfl).1, h3, fun i k w as e x hx => ((ro e).1.2.2 x hx).2, fun i k as e => (by have := (ro e).1.1; omega), fun i k as e l gs m => (((ro e).1.2 _ m) l gs rfl).2.strsK⟩, fun i k s e => ?_⟩
  obtain ⟨r, z⟩ := ro e
  refine ⟨z, fun w ats q => ?_, fun n q => ?_, fun arms q => ?_⟩
  · subst q
    exact ⟨r.1, r.2.1, fun x hx => (r.2.2 x hx).1⟩
  · subst q
    exact r
  · subst q
    exact ⟨by have := r.1; omega, fun a ha => armFit_of (r.2 a ha)⟩
theorem mk_sm {H1 : Hp} {x dx : Addr} {o o' : HO} (hx : H1 x = none) (hd : H1 dx = none) : Same H1 (upd (upd H1 dx o) x o') := fun _ _ h => mk_at hx hd h
structure PieceW (c : Cs) (H : Hp) (p ls : Addr) (xs : List V) (ss : Sts) (lb : Addr) (labs : List Str) : Prop where
  pc : PieceAt c H p ls
  ls : H ls = some (.lst xs)
  st : StepsAt c H xs ss
  gd : Good ss
  ft : ∀ (i : Nat) (k : Int) (s : Stp), ss[i]? = some (k, s) → Fit k s
  lb : labsAt H lb labs
  sp : ∀ l ∈ labs, (spotO ss l).isSome = true
theorem PieceW.same {c : Cs} {H H' : Hp} {p ls : Addr} {xs : List V} {ss : Sts} {lb : Addr} {labs : List Str} (s : Same H H') (h : PieceW c H p ls xs ss lb labs) : PieceW c H' p ls xs ss lb labs :=
  ⟨h.pc.same s, s _ _ h.ls, h.st.same s, h.gd, h.ft, h.lb.same s, h.sp⟩
def spPiece (K : PySem.W.Frag) (c : Cs) : Sp := fun vs H Q _ => ∃ (a : Addr) (ns : List Int) (i : Int), vs = [.ref a, .int i] ∧ SqL K H a (ns.map V.int) ∧ 0 ≤ i ∧ ∀ t p ls lb xs ss labs H', Same H H' → H' t = some (.tup [.ref p, .ref lb]) → PieceW c H' p ls xs ss lb labs → Q (.ref t) H'
section
variable {P : Program} {w : World} {K : PySem.W.Frag} {mg : Str → Option Value} {base : Heap} {c : Cs}
theorem scPiece : FnScope ["_law_script", "_law_at", "_law_labels", "_law_cell", "_law_steps", "_law_places", "_law_k", "_law_summon"] ["_law_script", "_law_at"] (defScope sPiece) := ⟨rfl, rfl, rfl, by decide +kernel, rfl, by decide +kernel, by decide +kernel⟩
set_option maxHeartbeats 16000000 in
theorem ok_piece {g : Addr} {gd : FuncData} (F : Fun K "_law_piece" "_law_piece" sPiece g gd) (T : Isi K mg c) (O1 : One P w K mg base 1 "_law_cell_at" ["_law_script", "_law_k"] (spCell K)) (O2 : One P w K mg base 2 "_law_figure" ["_law_cell", "_law_k", "_law_many"] spFig)
    (O3 : One P w K mg base 4 "_law_row" ["_law_cell", "_law_k", "_law_labels"] (spRow c)) (O4 : One P w K mg base 3 "_law_arms" ["_law_cell", "_law_labels"] spArms) (C1 : CMk P w K mg base 2 "Label" c.label ["self", "mark", "label"] (spNLabel c.label))
    (C2 : CMk P w K mg base 4 "Summon" c.summon ["self", "mark", "callee", "atoms", "arms"] (spNSummon c.summon)) (C3 : CMk P w K mg base 1 "Piece" c.piece ["self", "name", "params", "ways", "steps"] (spNPiece c.piece)) : FnOk P w K mg base CX0 6 g gd ["_law_script", "_law_at"] (spPiece K c) := by
  obtain ⟨g1, d1, m1, k1, b1, G1⟩ := O1.is
  obtain ⟨g2, d2, m2, k2, b2, G2⟩ := O2.is
  obtain ⟨g3, d3, m3, k3, b3, G3⟩ := O3.is
  obtain ⟨g4, d4, m4, k4, b4, G4⟩ := O4.is
  obtain ⟨p1, q1, n1, M1, e1, A1⟩ := C1.is
  obtain ⟨p2, q2, n2, M2, e2, A2⟩ := C2.is
  obtain ⟨p3, q3, n3, M3, e3, A3⟩ := C3.is
  refine F.ok scPiece (fun vs H Q E h => ?_) (fun cdv A outer s H vs Q E hr h => ?_)
  · obtain ⟨a, ns, i, rfl, _⟩ := h
    rfl
  · obtain ⟨a, ns, at_, rfl, hS, h0, q⟩ := h
    have hr1 : Room 1 _ := hr.mono (by decide)
    have hr2 : Room 2 _ := hr.mono (by decide)
    have hr3 : Room 3 _ := hr.mono (by decide)
    have hr4 : Room 4 _ := hr.mono (by decide)
    have hr5 : Room 5 _ := hr.mono (by decide)
    refine ⟨_, pss_cons (ps_set (i := 2) scPiece.nd rfl (Or.inr rfl) (pe_comp (cl := []) (fr := []) (N' := ["_law_k"]) ?S1 rfl (pi_range1 rfl T.rng (pa_cons (pe_op op_add pe_int (pe_op op_mod (pe_call G1 hr1 (by rfl) m1 k1 b1 .nil pass0 (pa_cons (pv 0) (pa_cons (pv 1) pa_nil))) pe_int)) pa_nil)) (fun _ _ _ _ _ => pifs_nil)
        (fun _ _ _ _ _ => pe_op op_add_str pe_str (pe_callTy call_str_int (by rfl) T.str boot_str (pa_cons (pv 0) pa_nil)))))
      (pss_cons (ps_set (i := 3) scPiece.nd rfl (Or.inr rfl) (pe_call G1 hr1 (by rfl) m1 k1 b1 .nil pass0 (pa_cons (pv 0) (pa_cons (pe_op op_add (pv 1) pe_int) pa_nil))))
      (pss_cons (ps_setT (i0 := 4) (n := 1) (cl := [(("_law_labels" : Str), s.heap.objs.size + 1), (("_law_cell" : Str), s.heap.objs.size + 1 + 1)]) (fr := [3, 2]) (N' := ["_law_k", "_law_cell", "_law_labels"]) ?S2 scPiece.nd rfl (Or.inl rfl) (Or.inl rfl) rfl rfl (pi_range1 rfl T.rng (pa_cons (pe_op op_mod (pe_op op_fdiv (pe_call G1 hr1 (by rfl) m1 k1 b1 .nil pass0 (pa_cons (pv 0) (pa_cons (pv 1) pa_nil))) pe_int) pe_int) pa_nil)) (fun _ _ _ _ _ => pg_oneT (by decide +kernel) rfl rfl) (fun _ _ _ _ _ => pifs_nil)
        (fun _ _ _ _ _ => pe_call G3 hr4 (by rfl) m3 k3 b3 .nil pass0 (pa_cons (pv 1) (pa_cons (pv 0) (pa_cons (pv 2) pa_nil)))))
      (pss_cons (ps_set (i := 5) scPiece.nd rfl (Or.inl rfl) (pe_call G1 hr1 (by rfl) m1 k1 b1 .nil pass0 (pa_cons (pv 0) (pa_cons (pe_op op_add (pv 1) pe_int) pa_nil))))
      (pss_cons (ps_for PassesOwn.never rfl (pi_range1 rfl T.rng (pa_cons (pe_callB call_len_seq (by rfl) T.len PySem.boot_len (pa_cons (pv 2) pa_nil)) pa_nil)) (pg_name (i := 6) scPiece.nd rfl (Or.inl rfl))
        (pss_one (ps_expr (pe_bm PySem.F.plainAttrs_list PySem.F.slot_list_insert PySem.F.type_list_insert mt_insert (pv 4) (pa_cons (pe_call G2 hr2 (by rfl) m2 k2 b2 .nil pass0 (pa_cons (pv 5) (pa_cons (pv 6) (pa_cons (pe_op op_add (pe_callB call_len_seq (by rfl) T.len PySem.boot_len (pa_cons (pv 4) pa_nil)) pe_int) pa_nil))))
          (pa_cons (pe_make M1 A1 hr3 (by rfl) n1 e1 .nil pass0 (pa_cons (pe_tup (pa_cons pe_str (pa_cons (pe_op op_add pe_int (pv 6)) pa_nil))) (pa_cons (pe_ix ix_list (pv 2) (pv 6) (fun _ _ => rfl)) pa_nil))) pa_nil))))))
      (pss_cons (ps_set (i := 7) scPiece.nd rfl (Or.inl rfl) (pe_make M2 A2 hr5 (by rfl) n2 e2 .nil pass0 (pa_cons (pe_tup (pa_cons pe_str (pa_cons pe_int pa_nil))) (pa_cons pe_str (pa_cons (pe_lst pa_nil) (pa_cons (pe_call G4 hr3 (by rfl) m4 k4 b4 .nil pass0 (pa_cons (pe_call G1 hr1 (by rfl) m1 k1 b1 .nil pass0 (pa_cons (pv 0) (pa_cons (pe_op op_add (pv 1) pe_int) pa_nil))) (pa_cons (pv 2) pa_nil))) pa_nil))))))
      (pss_cons (ps_expr (pe_bm PySem.F.plainAttrs_list PySem.F.slot_list_insert PySem.F.type_list_insert mt_insert (pv 4) (pa_cons (pe_call G2 hr2 (by rfl) m2 k2 b2 .nil pass0 (pa_cons (pv 5) (pa_cons pe_int (pa_cons (pe_op op_add (pe_callB call_len_seq (by rfl) T.len PySem.boot_len (pa_cons (pv 4) pa_nil)) pe_int) pa_nil)))) (pa_cons (pv 7) pa_nil))))
      (pss_one (ps_ret (pe_tup (pa_cons (pe_make M3 A3 hr2 (by rfl) n3 e3 .nil pass0 (pa_cons pe_str (pa_cons (pe_lst pa_nil) (pa_cons (pe_lst (pa_cons pe_str (pa_cons pe_str (pa_cons pe_str pa_nil)))) (pa_cons (pv 4) pa_nil))))) (pa_cons (pv 2) pa_nil))))))))))), ?_⟩
    case S1 => exact ⟨rfl, by decide, rfl, by decide, rfl, by decide +kernel, rfl, rfl, (fun i j h => absurd h (by simp)), (fun y c h => absurd h (by simp)), has_any (ks := []) (l := [(".0", .local), ("_law_k", .local), ("str", .globalImplicit)]) rfl rfl (by decide)⟩
    case S2 =>
      refine ⟨rfl, by decide, rfl, by decide, by decide +kernel, rfl, fun i j h => ?_, fun y c h => look_swap (by decide) y c h, has_any (ks := ["_law_labels", "_law_cell"]) (l := [(".0", .local), ("_law_k", .local), ("_law_row", .globalImplicit), ("_law_cell", .cell), ("_law_labels", .cell)]) rfl rfl (by decide)⟩
      match i, h with
      | 0, h => cases h; exact ⟨"_law_cell", rfl, rfl, .inl rfl, rfl, .inl rfl⟩
      | 1, h => cases h; exact ⟨"_law_labels", rfl, rfl, .inl rfl, rfl, .inl rfl⟩
      | i + 2, h => cases h
    -- the labels
    refine ⟨_, rfl, _, rfl, a, ns, _, rfl, hS, h0, fun x0 => ⟨_, _, rfl, rfl, (by show (0 : Int) < _; decide), _, _, rfl, rfl, _, rfl, by omega, by omega, fun D hD => ?_⟩⟩
    have hnl : (1 + x0 % 4).toNat ≤ 4 ∧ 0 < (1 + x0 % 4).toNat := by omega
    generalize (1 + x0 % 4).toNat = nl at hnl
    refine comp_rng (n := nl) (lo := 0) (fun i v _ => v = .str (labN i)) (smallT _ (by omega)) (fun _ _ _ _ _ h => h) ?_ ?_
    · intro i H' R hi sD hDn qq
      have hb := labN_len i (by omega)
      exact ⟨_, rfl, _, rfl, (sm_int (i := 0 + (i : Nat)) (by omega) (by omega)).log, _, _, rfl, rfl, small _ hb, qq _ H' (Same.refl H') rfl⟩
    intro H1 vs1 sD1 hD1 len1 hR1
    have s1 : Same H H1 := sD1.same hD
    obtain ⟨labs, elabs, llen⟩ : ∃ labs : List Str, vs1 = labs.map V.str ∧ labs.length = nl := by
      refine ⟨(List.range nl).map labN, ?_, by simp⟩
      apply List.ext_getElem?
      intro i
      rw [List.getElem?_map, List.getElem?_map]
      by_cases hi : i < nl
      · have e := List.getElem?_eq_getElem (l := vs1) (i := i) (by omega)
        rw [e, hR1 i _ e, List.getElem?_range hi]
        rfl
      · rw [List.getElem?_eq_none (by omega), List.getElem?_eq_none (by simp; omega)]
        rfl
    subst elabs
    have hlb1 : labsAt H1 D labs := ⟨hD1, by omega, by omega⟩
    -- the cell
    refine ⟨_, rfl, _, rfl, _, _, rfl, rfl, a, ns, _, rfl, s1.seq hS, by omega, fun x1 => ?_⟩
    -- the rows
    refine ⟨_, rfl, _, rfl, a, ns, _, rfl, s1.seq hS, h0, fun x2 => ⟨_, _, rfl, rfl, ⟨by decide, by decide⟩, _, _, rfl, rfl, (by show (0 : Int) < _; decide), _, rfl, by omega, by omega, fun D2 hD2 => ?_⟩⟩
    have hn2 : (x2 / 4 % 13).toNat ≤ 12 := by omega
    generalize (x2 / 4 % 13).toNat = n2 at hn2
    refine comp_rngT (n := n2) (lo := 0) (fun i v H' => ∃ st, StepN c (fun y => H1 y = none ∧ y ≠ D2) H' v ((i : Nat) : Int) st ∧ rowOk labs st) (smallT _ (by omega)) ?_ ?_ ?_
    · rintro i v Ha Hb sD ⟨st, hN, hok⟩
      exact ⟨st, hN.keep fun y o hy ho => ⟨hy, sD y o hy.2 ho⟩, hok⟩
    · intro i H' R hi sD hDn qq
      have s' : Same H1 H' := sD.same hD2
      refine ⟨_, rfl, _, rfl, _, rfl, x1, i, D, labs, by rw [Int.zero_add]; rfl, by omega, hlb1.same s', fun v st H3 s3 hN hok => qq v H3 s3 ⟨st, hN.keep fun y o hy ho => ⟨new_of sD hDn hy, ho⟩, hok⟩⟩
    intro H2 vs2 sD2 hD2' len2 hR2
    have s12 : Same H1 H2 := sD2.same hD2
    have s2 := s1.trans s12
    have hlb2 := hlb1.same s12
    obtain ⟨ss0, hss0, hok0⟩ := steps_choose (c := c) (B := fun y => y ≠ D2) (H := H2) (p := fun k st => rowOk labs st ∧ sm k) (vs := vs2) fun i v e => by
      obtain ⟨st, hN, hok⟩ := hR2 i v e
      have hi := (List.getElem?_eq_some_iff.mp e).1
      exact ⟨_, st, hN.keep fun y o hy ho => ⟨hy.2, ho⟩, hok, sm_nat (by omega)⟩
    have nD2 : H D2 = none := s1.free hD2
    have nDD : D ≠ D2 := ne_of_none hD1 hD2
    -- the places
    refine ⟨_, rfl, _, rfl, _, _, rfl, rfl, a, ns, _, rfl, s2.seq hS, by omega, fun x3 => ?_⟩
    refine ⟨_, rfl, D, _, rfl, .inl (SqL.of hlb2.1), _, rfl, by rw [List.length_map]; omega, by rw [List.length_map]; omega, for_range (n := (labs.map V.str).length) (fun i σ H5 => (∃ y6 y7, σ = [some (.ref a), some (.int at_), some (.ref D), some (.int x1), some (.ref D2), some (.int x3), y6, y7]) ∧ Same H H5 ∧ labsAt H5 D labs ∧ ∃ xs ss, H5 D2 = some (.lst xs) ∧ StepsN c (fun y => y ≠ D2) H5 xs ss ∧
      (∀ p ∈ ss, rowOk labs p.2 ∧ sm p.1) ∧ ss.length ≤ 12 + i ∧ (∀ (j : Nat) (l : Str), j < i → labs[j]? = some l → ∃ k, (k, Stp.label l) ∈ ss)) ⟨⟨_, _, rfl⟩, s2, hlb2, vs2, ss0, hD2', hss0, hok0, (by have := hss0.len; omega), fun j l hj => (by omega)⟩ ?_ ?_⟩
    · rintro i σ H5 hi ⟨⟨y6, y7, rfl⟩, s5, hlb5, xs, ss, hx5, hN5, hok5, hl5, hlab5⟩
      rw [List.length_map] at hi
      have exl := hN5.len
      refine ⟨_, rfl, .inl ⟨rfl, _, SqL.of hx5⟩, _, rfl, _, rfl, _, rfl, D2, _, rfl, .inl (SqL.of hx5), _, _, rfl, rfl, x3, _, _, rfl, by omega, by omega, by omega, fun nf hnf H6 s6 => ?_⟩
      refine ⟨_, rfl, _, _, rfl, rfl, small 2 (by decide), fun t ht => ?_⟩
      have s7 := s6.trans (same_new (o := .tup [V.str "z", V.int (20 + (0 + (i : Nat)))]) (Same.refl H6) ht)
      have wt : markAt (upd H6 t (.tup [V.str "z", V.int (20 + (0 + (i : Nat)))])) t (20 + (0 + (i : Nat))) := upd_same
      generalize upd H6 t (.tup [V.str "z", V.int (20 + (0 + (i : Nat)))]) = H7 at s7 wt
      have hlb7 := hlb5.same s7
      have el : labs[i]? = some labs[i] := List.getElem?_eq_getElem hi
      generalize labs[i] = l at el
      have eat : atI (labs.map V.str) ((0 : Int) + (i : Nat)) = some (.str l) := by
        rw [Int.zero_add]
        refine atI_nat ?_
        rw [List.getElem?_map, el]
        rfl
      refine ⟨_, rfl, _, rfl, D, _, _, _, rfl, rfl, SqL.of hlb7.1, eat, fun x dx hx hd hne => ?_⟩
      refine ⟨x, dx, _, _, rfl, upd_same, fun H8 sd h8 => ⟨rfl, ?_⟩⟩
      have sM := mk_same hx hd sd
      have s8 := s7.trans sM
      have hx8 := s8 _ _ hx5
      refine ⟨D2, xs, nf, _, rfl, rfl, hx8, by omega, by omega, ?_⟩
      have nx : x ≠ D2 := fun z => by rw [z, s7 _ _ hx5] at hx; cases hx
      have nt : t ≠ D2 := fun z => by rw [z, s6 _ _ hx5] at ht; cases ht
      refine ⟨⟨_, _, rfl⟩, fun b o hb => ?_, ⟨?_, hlb5.2⟩, _, ss.take nf ++ (20 + (0 + ((i : Nat) : Int)), .label l) :: ss.drop nf, upd_same, StepsN.ins nf (hN5.keep fun y o hy ho => ⟨hy, ?_⟩) (.label (dx := dx) nx nt ?_ ?_), fun p hp => ?_, ?_, fun j l' hj el' => ?_⟩
      · rw [upd_ne (ne_of_none hb nD2)]
        exact s8 _ _ (s5 _ _ hb)
      · rw [upd_ne nDD]
        exact s8 _ _ hlb5.1
      · rw [upd_ne hy]
        exact s8 _ _ ho
      · rw [upd_ne nx]
        exact h8
      · show upd _ _ _ _ = _
        rw [upd_ne nt]
        exact sM _ _ wt
      · rcases mem_ins.mp hp with rfl | hp
        · exact ⟨List.mem_of_getElem? el, sm_int (by omega) (by omega)⟩
        · exact hok5 p hp
      · rw [len_ins]
        omega
      · rcases Nat.lt_or_ge j i with hji | hji
        · obtain ⟨k, hk⟩ := hlab5 j l' hji el'
          exact ⟨k, mem_ins.mpr (.inr hk)⟩
        · have : j = i := by omega
          subst this
          rw [el] at el'
          cases el'
          exact ⟨_, mem_ins.mpr (.inl rfl)⟩
    · rintro σ H5 ⟨⟨y6, y7, rfl⟩, s5, hlb5, xs, ss, hx5, hN5, hok5, hl5, hlab5⟩
      rw [List.length_map] at hl5 hlab5
      have exl := hN5.len
      -- the summon
      refine ⟨small 2 (by decide), fun t ht => ?_⟩
      have s6 := same_new (o := .tup [V.str "z", V.int 30]) (Same.refl H5) ht
      have wt : markAt (upd H5 t (.tup [V.str "z", V.int 30])) t 30 := upd_same
      generalize upd H5 t (.tup [V.str "z", V.int 30]) = H6 at s6 wt
      refine ⟨small 0 (by decide), fun le hle => ?_⟩
      have s7' := same_new (o := .lst []) (Same.refl H6) hle
      have wl : (upd H6 le (.lst [])) le = some (.lst []) := upd_same
      generalize upd H6 le (.lst []) = H7 at s7' wl
      have s57 := s6.trans s7'
      have s7 := s5.trans s57
      refine ⟨_, rfl, _, rfl, _, _, rfl, rfl, a, ns, _, rfl, s7.seq hS, by omega, fun x5 => ⟨_, rfl, x5, D, labs, rfl, hlb5.same s57, fun lr us arms H8 s8 hlr har h3 hok => ?_⟩⟩
      refine fun x dx hx hd hne => ?_
      have sm' : Same H8 (upd (upd H8 dx (.own x)) x (.ins c.summon dx [])) := mk_sm hx hd
      refine ⟨x, dx, le, lr, _, _, us, arms, rfl, upd_same, sm' _ _ (s8 _ _ wl), sm' _ _ hlr, har.same sm', by omega, fun b hb => armFit_of (hok b hb), fun H9 za zr us' sd h9 hza hzr fa fr len' hA => ⟨rfl, ?_⟩⟩
      have sM := mk_same hx hd sd
      have s89 := s8.trans sM
      have s79 := s57.trans s89
      have hx9 := s79 _ _ hx5
      -- put in
      refine ⟨_, rfl, .inl ⟨rfl, _, SqL.of hx9⟩, _, rfl, _, rfl, D2, _, rfl, .inl (SqL.of hx9), _, _, rfl, rfl, x3, _, _, rfl, by decide, by decide, by omega, fun nf hnf H10 s10 => ?_⟩
      have hx10 := s10 _ _ hx9
      refine ⟨_, rfl, D2, xs, nf, _, rfl, rfl, hx10, by omega, by omega, ?_⟩
      have nx : x ≠ D2 := fun z => by rw [z, s57.trans s8 _ _ hx5] at hx; cases hx
      have nt : t ≠ D2 := fun z => by rw [z, hx5] at ht; cases ht
      have away : ∀ {y : Addr}, (upd (upd H8 dx (.own x)) x (.ins c.summon dx [])) y = none → y ≠ D2 := fun hy z => by
        rw [z] at hy
        rw [sm' _ _ (s57.trans s8 _ _ hx5)] at hy
        cases hy
      have sE : Same H (upd H10 D2 (.lst (xs.take nf ++ .ref x :: xs.drop nf))) := fun b o hb => by
        rw [upd_ne (ne_of_none hb nD2)]
        exact s10 _ _ (s79 _ _ (s5 _ _ hb))
      have kE : ∀ y o, y ≠ D2 → H9 y = some o → (upd H10 D2 (.lst (xs.take nf ++ .ref x :: xs.drop nf))) y = some o := fun y o n h => by
        rw [upd_ne n]
        exact s10 _ _ h
      have wE : (upd H10 D2 (.lst (xs.take nf ++ .ref x :: xs.drop nf))) D2 = some (.lst (xs.take nf ++ .ref x :: xs.drop nf)) := upd_same
      generalize upd H10 D2 (.lst (xs.take nf ++ .ref x :: xs.drop nf)) = H11 at sE kE wE
      have hSt : StepsAt c H11 (xs.take nf ++ .ref x :: xs.drop nf) (ss.take nf ++ (30, .summon arms) :: ss.drop nf) :=
        (StepsN.ins (c := c) (B := fun y => y ≠ D2) nf (hN5.keep fun y o hy ho => ⟨hy, kE y o hy (s79 _ _ ho)⟩) (.summon (dx := dx) nx nt (away fa) (away fr) (kE _ _ nx h9) (kE _ _ nt (s89 _ _ (s7' _ _ wt))) (kE _ _ (away fa) hza) (kE _ _ (away fr) hzr) len' fun i v b e1 e2 => (hA i v b e1 e2).keep fun y o hy ho => ⟨away hy, kE y o (away hy) ho⟩)).at
      obtain ⟨hGood, hFit⟩ := good_of (labs := labs) (ss := ss.take nf ++ (30, .summon arms) :: ss.drop nf) (fun p hp => by
          rcases mem_ins.mp hp with rfl | hp
          · exact ⟨⟨h3, hok⟩, sm_int (i := 30) (by decide) (by decide)⟩
          · exact hok5 p hp) (fun l hl => by
          obtain ⟨j, hj⟩ := List.mem_iff_getElem?.mp hl
          obtain ⟨k, hk⟩ := hlab5 j l (List.getElem?_eq_some_iff.mp hj).1 hj
          exact ⟨k, mem_ins.mpr (.inr hk)⟩) (by rw [len_ins]; omega)
      have hlb11 : labsAt H11 D labs := ⟨kE _ _ nDD (s79 _ _ hlb5.1), hlb5.2⟩
      -- the piece
      refine ⟨small 0 (by decide), fun lp hlp => ?_⟩
      have s12 := same_new (o := .lst []) (Same.refl H11) hlp
      have wp : (upd H11 lp (.lst [])) lp = some (.lst []) := upd_same
      generalize upd H11 lp (.lst []) = H12 at s12 wp
      refine ⟨small 3 (by decide), fun lw hlw => ?_⟩
      have s13' := same_new (o := .lst [V.str "fault", V.str "end", V.str "w"]) (Same.refl H12) hlw
      have ww : (upd H12 lw (.lst [V.str "fault", V.str "end", V.str "w"])) lw = some (.lst [V.str "fault", V.str "end", V.str "w"]) := upd_same
      generalize upd H12 lw (.lst [V.str "fault", V.str "end", V.str "w"]) = H13 at s13' ww
      have s13 := s12.trans s13'
      refine ⟨_, rfl, fun x6 dx6 hx6 hd6 hne6 => ?_⟩
      refine ⟨x6, dx6, _, lp, lw, D2, _, _, _, rfl, upd_same, mk_at hx6 hd6 (s13' _ _ wp), mk_at hx6 hd6 ww, mk_at hx6 hd6 (s13 _ _ wE), fun H14 z1 z2 z3 sd6 h14 hz1 hf1 hz2 hf2 hz3 hf3 => ⟨rfl, ?_⟩⟩
      have sM6 := mk_same hx6 hd6 sd6
      have s14 := s13.trans sM6
      refine ⟨_, rfl, small 2 (by decide), fun tt htt => ?_⟩
      have s15 := same_new (o := .tup [V.ref x6, V.ref D]) (Same.refl H14) htt
      refine q tt x6 z3 D _ _ labs _ (sE.trans (s14.trans s15)) upd_same ⟨⟨dx6, z1, z2, s15 _ _ h14, s15 _ _ hz1, s15 _ _ hz2⟩, s15 _ _ hz3, hSt.same (s14.trans s15), hGood, hFit, hlb11.same (s14.trans s15), fun l hl => ?_⟩
      obtain ⟨j, hj⟩ := List.mem_iff_getElem?.mp hl
      obtain ⟨k, hk⟩ := hlab5 j l (List.getElem?_eq_some_iff.mp hj).1 hj
      exact spot_mem (k := k) (mem_ins.mpr (.inr hk))
end
end K45
set_option maxRecDepth 100000
namespace K45
open PySem L2
abbrev sDue : Stmt := top 37
abbrev sLHand : Stmt := top 38
abbrev sLaw : Stmt := top 39
def spDue (c : Cs) : Sp := fun vs H Q _ => ∃ (p ls g : Addr) (xs : List V) (ss : Sts) (l : Str) (gs : List Str), vs = [.ref p, .str l, .ref g] ∧ PieceAt c H p ls ∧ H ls = some (.lst xs) ∧ StepsAt c H xs ss ∧ Good ss ∧ H g = some (.lst (gs.map V.str)) ∧
  (spotO ss l).isSome = true ∧ strsK gs ∧ ∀ v H', Same H H' → Told (kds ss) (spot ss) (resV ss gs) .non (spot ss l) v → Q v H'
section
variable {P : Program} {w : World} {K : PySem.W.Frag} {mg : Str → Option Value} {base : Heap} {c : Cs}
theorem scDue : FnScope ["_law_piece_here", "_law_label", "_law_goals", "_law_spots", "_law_k", "_law_spot", "_law_turn", "_law_step"] ["_law_piece_here", "_law_label", "_law_goals"] (defScope sDue) := ⟨rfl, rfl, rfl, by decide +kernel, rfl, by decide +kernel, by decide +kernel⟩
theorem resV_end {ss : Sts} {gs : List Str} {o : Nat} (h : ss.length ≤ o) : resV ss gs o = .non := by
  unfold resV
  rw [List.getElem?_eq_none h]
set_option maxHeartbeats 16000000 in
theorem ok_due {g : Addr} {gd : FuncData} (F : Fun K "_law_due" "_law_due" sDue g gd) (T : Isi K mg c) (N : NA K c) : FnOk P w K mg base CX0 1 g gd ["_law_piece_here", "_law_label", "_law_goals"] (spDue c) := by
  refine F.ok scDue (fun vs H Q E h => ?_) (fun cdv A outer s H vs Q E hr h => ?_)
  · obtain ⟨p, ls, g, xs, ss, l, gs, rfl, _⟩ := h
    rfl
  · obtain ⟨p, ls, g, xs, ss, l, gs, rfl, hp, hl, hs, hg, hgs, hlo, hok, q⟩ := h
    have hu := hu_of hr
    have exl := hs.len
    have hlen := hg.len
    obtain ⟨dx, lp, lw, h1, h2, h3⟩ := id hp
    refine ⟨_, pss_cons (ps_set (i := 3) scDue.nd rfl (Or.inl rfl) pe_dnewK)
      (pss_cons (ps_for PassesOwn.never rfl (pi_range1 rfl T.rng (pa_cons (pe_callB call_len_seq (by rfl) T.len PySem.boot_len (pa_cons (pe_fld (pv 0) rfl) pa_nil)) pa_nil)) (pg_name (i := 4) scDue.nd rfl (Or.inl rfl))
        (pss_one (ps_if (pt_val (pe_callB call_isC (by rfl) T.isn boot_isi (pa_cons (pe_ix ix_list (pe_fld (pv 0) rfl) (pv 4) (fun _ _ => rfl)) (pa_cons (pe_glob (v := .ref c.label) (by rfl) T.gl rfl) pa_nil))))
          (pss_one (ps_dput hu (pv 3) (pe_fld (pe_ix ix_list (pe_fld (pv 0) rfl) (pv 4) (fun _ _ => rfl)) rfl) (pv 4) rfl)) pss_nil)))
      (pss_cons (ps_set (i := 5) scDue.nd rfl (Or.inl rfl) (pe_dget hu (pv 3) (pv 1) (fun _ _ => rfl)))
      (pss_cons (ps_for PassesOwn.never rfl (pi_range1 rfl T.rng (pa_cons (pe_op op_mul pe_int (pe_callB call_len_seq (by rfl) T.len PySem.boot_len (pa_cons (pe_fld (pv 0) rfl) pa_nil))) pa_nil)) (pg_name (i := 6) scDue.nd rfl (Or.inl rfl))
        (pss_cons (ps_if (pt_cmpR op_ge (pv 5) (pe_callB call_len_seq (by rfl) T.len PySem.boot_len (pa_cons (pe_fld (pv 0) rfl) pa_nil)) (nomark _)) (pss_one (ps_ret pe_non)) pss_nil)
        (pss_cons (ps_set (i := 7) scDue.nd rfl (Or.inl rfl) (pe_ix ix_list (pe_fld (pv 0) rfl) (pv 5) (fun _ _ => rfl)))
        (pss_one (ps_if (pt_val (pe_callB call_isC (by rfl) T.isn boot_isi (pa_cons (pv 7) (pa_cons (pe_glob (v := .ref c.label) (by rfl) T.gl rfl) pa_nil))))
          (pss_one (ps_set (i := 5) scDue.nd rfl (Or.inl rfl) (pe_op op_add (pv 5) pe_int)))
          (pss_one (ps_if (pt_val (pe_callB call_isC (by rfl) T.isn boot_isi (pa_cons (pv 7) (pa_cons (pe_glob (v := .ref c.jump) (by rfl) T.gj rfl) pa_nil))))
            (pss_one (ps_set (i := 5) scDue.nd rfl (Or.inl rfl) (pe_dget hu (pv 3) (pe_fld (pv 7) rfl) (fun _ _ => rfl))))
            (pss_one (ps_if (PW.pt (pw_and (pt_val (pe_callB call_isC (by rfl) T.isn boot_isi (pa_cons (pv 7) (pa_cons (pe_glob (v := .ref c.ret) (by rfl) T.gr rfl) pa_nil)))) (pw_and1 (pt_cmpR (op_eqV hr.units) (pe_fld (pv 7) rfl) (pv 2) (nomark _)))))
              (pss_one (ps_ret (pe_fld (pv 7) rfl))) (pss_one (ps_ret pe_non)))))))))))
      (pss_one (ps_ret pe_non))))), ?_⟩
    refine fun d hd => ?_
    have s0 : Same H (upd H d (.dK [])) := same_new (Same.refl H) hd
    refine ⟨_, rfl, p, c.piece, dx, _, _, rfl, s0 _ _ h1, N.pcl, N.p_steps, rfl, ls, _, rfl, .inl (SqL.of (s0 _ _ hl)), _, rfl, by omega, by omega, for_range (n := xs.length) (fun i σ H2 => (∃ x4 x5 x6 x7, σ = [some (.ref p), some (.str l), some (.ref g), some (.ref d), x4, x5, x6, x7]) ∧ Same H H2 ∧ SpotsAt H2 d ss i) ⟨⟨_, _, _, _, rfl⟩, s0, ⟨[], upd_same, Nat.le_refl _, fun l => rfl⟩⟩ ?_ ?_⟩
    · rintro i σ H2 hi ⟨⟨x4, x5, x6, x7, rfl⟩, s2, ⟨kvs, hk2, hkl, hkv⟩⟩
      have hx : xs[i]? = some xs[i] := List.getElem?_eq_getElem hi
      generalize xs[i] = v at hx
      have eat : atI xs ((0 : Int) + (i : Nat)) = some v := by rw [Int.zero_add]; exact atI_nat hx
      obtain ⟨k, st, hi', hst⟩ := hs.get hx
      have hst2 := hst.same s2
      obtain ⟨ty, t1, t2⟩ := T.isL hst2
      have hl2 := s2 _ _ hl
      refine ⟨_, rfl, p, c.piece, dx, _, _, rfl, s2 _ _ h1, N.pcl, N.p_steps, rfl, _, rfl, ls, _, _, _, rfl, rfl, SqL.of hl2, eat, _, ty, c.label, isL st, rfl, t1, t2, _, rfl, iteB (fun b => ?_) (fun b => ?_)⟩
      · cases hst2 with
        | @label a dx' m k l1 h hm =>
          have el' : labAt ss i = some l1 := labAt_of hi'
          refine ⟨_, rfl, _, rfl, _, rfl, p, c.piece, dx, _, _, rfl, s2 _ _ h1, N.pcl, N.p_steps, rfl, _, rfl, ls, _, _, _, rfl, rfl, SqL.of hl2, eat, a, c.label, dx', _, _, rfl, h, T.tl.cl, N.l_label, rfl, d, _, rfl, DPut.k (k := Sum.inr l1) hk2 (smallT _ (by omega)), ?_⟩
          refine ⟨⟨_, _, _, _, rfl⟩, fun b o hb => ?_, ⟨_, upd_same, ?_, fun l' => ?_⟩⟩
          · rw [upd_ne (ne_of_none hb hd)]
            exact s2 _ _ hb
          · have := length_putK kvs (Sum.inr l1) (V.int ((0 : Int) + (i : Nat)))
            omega
          · rw [valV_put, Int.zero_add]
            by_cases e : l' = l1
            · subst e
              rw [if_pos rfl]
              unfold spotN
              rw [if_pos el']
              rfl
            · rw [if_neg (fun z => e (Sum.inr.inj z)), hkv l']
              conv => rhs; unfold spotN
              rw [if_neg (fun z => e (by rw [el'] at z; exact (Option.some.inj z).symm))]
        | _ => cases b
      · have el := isL_no hi' b
        exact ⟨⟨_, _, _, _, rfl⟩, s2, ⟨kvs, hk2, by omega, fun l' => by rw [hkv l']; conv => rhs; unfold spotN; rw [el, if_neg (by simp)]⟩⟩
    · rintro σ H2 ⟨⟨x4, x5, x6, x7, rfl⟩, s2, hsp⟩
      rw [exl] at hsp
      refine ⟨_, rfl, _, rfl, d, _, rfl, hsp.get hlo, ?_⟩
      refine ⟨_, rfl, p, c.piece, dx, _, _, rfl, s2 _ _ h1, N.pcl, N.p_steps, rfl, ls, _, rfl, .inl (SqL.of (s2 _ _ hl)), _, _, rfl, rfl, .inl ⟨by decide, by decide⟩, _, rfl, by omega, by omega, for_range (n := (2 * ((xs.length : Nat) : Int)).toNat) (fun t σ H3 => (∃ (o : Nat) (x4 x6 x7 : Option V), σ = [some (.ref p), some (.str l), some (.ref g), some (.ref d), x4, some (.int (o : Nat)), x6, x7] ∧ it (kds ss) (spot ss) t (spot ss l) = some o) ∧ Same H H3 ∧ SpotsAt H3 d ss ss.length) ⟨⟨spot ss l, _, _, _, rfl, rfl⟩, s2, hsp⟩ ?_ ?_⟩
      · rintro t σ H3 ht ⟨⟨o, x4, x6, x7, rfl, hto⟩, s3, hsp3⟩
        have hl3 := s3 _ _ hl
        refine ⟨_, rfl, _, rfl, p, c.piece, dx, _, _, rfl, s3 _ _ h1, N.pcl, N.p_steps, rfl, ls, _, rfl, .inl (SqL.of hl3), _, _, rfl, rfl, _, rfl, iteD (fun e => ?_) (fun e => ?_)⟩
        · have z := told_end (f := resV ss gs) (d := V.non) hto (nxt_end (by omega))
          rw [resV_end (by omega)] at z
          exact q .non H3 s3 z
        · have hlt : o < xs.length := by omega
          have hx : xs[o]? = some xs[o] := List.getElem?_eq_getElem hlt
          generalize xs[o] = v at hx
          obtain ⟨k, st, hi, hst⟩ := hs.get hx
          have hst3 := hst.same s3
          refine ⟨_, rfl, p, c.piece, dx, _, _, rfl, s3 _ _ h1, N.pcl, N.p_steps, rfl, _, rfl, ls, _, _, _, rfl, rfl, SqL.of hl3, at_nat hx, ?_⟩
          obtain ⟨ty, t1, t2⟩ := T.isL hst3
          have en := nxt_at hi
          refine ⟨_, rfl, _, ty, c.label, isL st, rfl, t1, t2, _, rfl, iteB (fun b => ?_) (fun b => ?_)⟩
          · -- a label
            have en' : nxt (kds ss) (spot ss) o = some (o + 1) := by
              cases st with
              | label => exact en
              | _ => cases b
            exact ⟨_, rfl, _, _, rfl, rfl, ⟨o + 1, _, _, _, rfl, it_trans hto (it_one en')⟩, s3, hsp3⟩
          obtain ⟨ty, t1, t2⟩ := T.isJ hst3
          refine ⟨_, rfl, _, ty, c.jump, isJ st, rfl, t1, t2, _, rfl, iteB (fun b2 => ?_) (fun b2 => ?_)⟩
          · cases hst3 with
            | @jump a dx' m k l2 h hm =>
              have hgo := hg.jmp o k l2 hi
              have en' : nxt (kds ss) (spot ss) o = some (spot ss l2) := en
              exact ⟨_, rfl, _, rfl, a, c.jump, dx', _, _, rfl, h, T.tj.cl, N.j_label, rfl, d, _, rfl, hsp3.get hgo, ⟨spot ss l2, _, _, _, rfl, it_trans hto (it_one en')⟩, s3, hsp3⟩
            | label => cases b2
            | ret => cases b2
            | tell => cases b2
            | move => cases b2
            | summon => cases b2
          have stop : nxt (kds ss) (spot ss) o = none := by
            cases st with
            | label => cases b
            | jump => cases b2
            | _ => exact en
          have told : ∀ v, resV ss gs o = v → Told (kds ss) (spot ss) (resV ss gs) .non (spot ss l) v := fun v e => by
            rw [← e]
            exact told_end hto stop
          obtain ⟨ty, t1, t2⟩ := T.isR hst3
          refine ⟨_, rfl, _, ty, c.ret, isR st, rfl, t1, t2, _, rfl, iteB (fun b3 => ?_) (fun b3 => iteF ?_)⟩
          rotate_left
          · refine q .non H3 s3 (told _ ?_)
            unfold resV
            rw [hi]
            cases st with
            | ret => cases b3
            | _ => rfl
          cases hst3 with
          | @ret a dx' m g2 k way ats h hm hg2 =>
            have hgs3 := s3 _ _ hgs
            rw [goals_kV] at hgs3
            refine ⟨_, rfl, a, c.ret, dx', _, _, rfl, h, T.tr.cl, N.r_atoms, rfl, _, rfl, _, _, .lst (SqL.of hg2) (dats_keys ats), .lst (SqL.of hgs3) (dats_keys _), shaped_keys (hg.ats o k way ats hi), shaped_keys (fun z hz => ?_), _, rfl, ?_⟩
            · obtain ⟨y, hy, rfl⟩ := List.mem_map.mp hz
              exact hok y hy
            · rw [if_neg (by decide)]
              have ee : PyData.eqv (.list (ats.map kD)) (.list ((gs.map (Sum.inr : Str → Key)).map kD)) = decide (ats = gs.map Sum.inr) := by
                rw [PyData.eqv]
                exact eqv_keys ats gs
              rw [ee]
              refine iteD (fun z => ?_) (fun z => ?_)
              · refine ⟨_, rfl, a, c.ret, dx', _, _, rfl, h, T.tr.cl, N.r_way, rfl, q _ H3 s3 (told _ ?_)⟩
                unfold resV
                rw [hi]
                exact if_pos z
              · refine q _ H3 s3 (told _ ?_)
                unfold resV
                rw [hi]
                exact if_neg z
          | _ => cases b3
      · rintro σ H3 ⟨⟨o, x4, x6, x7, rfl, hto⟩, s3, hsp3⟩
        have hpos := spot_le hlo
        exact q .non H3 s3 (told_long hto (by rw [kds_len]; omega))
end
end K45
set_option maxRecDepth 100000
namespace K45
open PySem L2
structure MB (P : Program) (w : World) (K : PySem.W.Frag) (mg : Str → Option Value) (base : Heap) (C : Addr) (m : Str) (sp : Sp) : Prop where
  is : ∃ (f : Addr) (fd : FuncData), Meth K C m f ∧ Binds K fd ["self"] [] ∧ FnOk P w K mg base CX0 2 f fd ["self"] sp
structure Mts (P : Program) (w : World) (K : PySem.W.Frag) (mg : Str → Option Value) (base : Heap) (c : Cs) : Prop where
  wl : MB P w K mg base c.label "words" (spW c isL)
  wm : MB P w K mg base c.move "words" (spW c isM)
  wt : MB P w K mg base c.tell "words" (spW c isT)
  wj : MB P w K mg base c.jump "words" (spW c isJ)
  wr : MB P w K mg base c.ret "words" (spW c isR)
  ws : MB P w K mg base c.summon "words" (spW c isS)
  ll : MB P w K mg base c.label "labels" (spLb c fun s => !isJ s)
  lm : MB P w K mg base c.move "labels" (spLb c fun s => !isJ s)
  lt : MB P w K mg base c.tell "labels" (spLb c fun s => !isJ s)
  lj : MB P w K mg base c.jump "labels" (spLb c isJ)
  lr : MB P w K mg base c.ret "labels" (spLb c fun s => !isJ s)
section
variable {P : Program} {w : World} {K : PySem.W.Frag} {mg : Str → Option Value} {base : Heap} {c : Cs}
def Goes (P : Program) (w : World) (K : PySem.W.Frag) (mg : Str → Option Value) (base : Heap) (H : Hp) (m : Str) (v : V) (zs : List Str) : Prop := ∃ a C dx fs f fd sp, v = .ref a ∧ H a = some (.ins C dx fs) ∧ Cls K C ∧ Meth K C m f ∧ fs.lookup m = none ∧ FnOk P w K mg base CX0 2 f fd ["self"] sp ∧ Binds K fd ["self"] [] ∧
  ∀ (Q : VK), (∀ l H', Same H H' → H l = none → H' l = some (.lst (zs.map V.str)) → Q (.ref l) H') → sp [v] H Q E0
theorem words_go (T : Isi K mg c) (M : Mts P w K mg base c) {H : Hp} {v : V} {k : Int} {s : Stp} (h : StepAt c H v k s) (hf : Fit k s) : Goes P w K mg base H "words" v (wordsOf k s) := by
  cases id h with
  | @label a dx m k l h1 hm =>
    obtain ⟨f, fd, a1, a2, a3⟩ := M.wl.is
    exact ⟨a, _, dx, _, f, fd, _, rfl, h1, T.tl.cl, a1, rfl, a3, a2, fun Q q => ⟨_, k, _, rfl, h, rfl, hf, q⟩⟩
  | @jump a dx m k l h1 hm =>
    obtain ⟨f, fd, a1, a2, a3⟩ := M.wj.is
    exact ⟨a, _, dx, _, f, fd, _, rfl, h1, T.tj.cl, a1, rfl, a3, a2, fun Q q => ⟨_, k, _, rfl, h, rfl, hf, q⟩⟩
  | @ret a dx m g k way ats h1 hm hg =>
    obtain ⟨f, fd, a1, a2, a3⟩ := M.wr.is
    exact ⟨a, _, dx, _, f, fd, _, rfl, h1, T.tr.cl, a1, rfl, a3, a2, fun Q q => ⟨_, k, _, rfl, h, rfl, hf, q⟩⟩
  | @tell a dx m k h1 hm =>
    obtain ⟨f, fd, a1, a2, a3⟩ := M.wt.is
    exact ⟨a, _, dx, _, f, fd, _, rfl, h1, T.tt.cl, a1, rfl, a3, a2, fun Q q => ⟨_, k, _, rfl, h, rfl, hf, q⟩⟩
  | @move a dx m k n h1 hm =>
    obtain ⟨f, fd, a1, a2, a3⟩ := M.wm.is
    exact ⟨a, _, dx, _, f, fd, _, rfl, h1, T.tm.cl, a1, rfl, a3, a2, fun Q q => ⟨_, k, _, rfl, h, rfl, hf, q⟩⟩
  | @summon a dx m g r k vs arms h1 hm hg hr ha =>
    obtain ⟨f, fd, a1, a2, a3⟩ := M.ws.is
    exact ⟨a, _, dx, _, f, fd, _, rfl, h1, T.ts.cl, a1, rfl, a3, a2, fun Q q => ⟨_, k, _, rfl, h, rfl, hf, q⟩⟩
theorem labels_go (T : Isi K mg c) (M : Mts P w K mg base c) {H : Hp} {v : V} {k : Int} {s : Stp} (h : StepAt c H v k s) (hs : isS s = false) : Goes P w K mg base H "labels" v (labsOf s) := by
  cases id h with
  | @label a dx m k l h1 hm =>
    obtain ⟨f, fd, a1, a2, a3⟩ := M.ll.is
    exact ⟨a, _, dx, _, f, fd, _, rfl, h1, T.tl.cl, a1, rfl, a3, a2, fun Q q => ⟨_, k, _, rfl, h, rfl, q⟩⟩
  | @jump a dx m k l h1 hm =>
    obtain ⟨f, fd, a1, a2, a3⟩ := M.lj.is
    exact ⟨a, _, dx, _, f, fd, _, rfl, h1, T.tj.cl, a1, rfl, a3, a2, fun Q q => ⟨_, k, _, rfl, h, rfl, q⟩⟩
  | @ret a dx m g k way ats h1 hm hg =>
    obtain ⟨f, fd, a1, a2, a3⟩ := M.lr.is
    exact ⟨a, _, dx, _, f, fd, _, rfl, h1, T.tr.cl, a1, rfl, a3, a2, fun Q q => ⟨_, k, _, rfl, h, rfl, q⟩⟩
  | @tell a dx m k h1 hm =>
    obtain ⟨f, fd, a1, a2, a3⟩ := M.lt.is
    exact ⟨a, _, dx, _, f, fd, _, rfl, h1, T.tt.cl, a1, rfl, a3, a2, fun Q q => ⟨_, k, _, rfl, h, rfl, q⟩⟩
  | @move a dx m k n h1 hm =>
    obtain ⟨f, fd, a1, a2, a3⟩ := M.lm.is
    exact ⟨a, _, dx, _, f, fd, _, rfl, h1, T.tm.cl, a1, rfl, a3, a2, fun Q q => ⟨_, k, _, rfl, h, rfl, q⟩⟩
  | @summon a dx m g r k vs arms h1 hm hg hr ha => cases hs
theorem mark_go (T : Isi K mg c) (N : NA K c) {H : Hp} {v : V} {k : Int} {s : Stp} (h : StepAt c H v k s) : ∃ a C dx fs m, v = .ref a ∧ H a = some (.ins C dx fs) ∧ Cls K C ∧ NoAttr K C "mark" ∧ fs.lookup ("mark" : Str) = some (.ref m) ∧ markAt H m k := by
  cases h with
  | @label a dx m k l h1 hm => exact ⟨a, _, dx, _, m, rfl, h1, T.tl.cl, N.l_mark, rfl, hm⟩
  | @jump a dx m k l h1 hm => exact ⟨a, _, dx, _, m, rfl, h1, T.tj.cl, N.j_mark, rfl, hm⟩
  | @ret a dx m g k way ats h1 hm hg => exact ⟨a, _, dx, _, m, rfl, h1, T.tr.cl, N.r_mark, rfl, hm⟩
  | @tell a dx m k h1 hm => exact ⟨a, _, dx, _, m, rfl, h1, T.tt.cl, N.t_mark, rfl, hm⟩
  | @move a dx m k n h1 hm => exact ⟨a, _, dx, _, m, rfl, h1, T.tm.cl, N.m_mark, rfl, hm⟩
  | @summon a dx m g r k vs arms h1 hm hg hr ha => exact ⟨a, _, dx, _, m, rfl, h1, T.ts.cl, N.s_mark, rfl, hm⟩
theorem ok_z : PyData.strOk "z" = true := by decide +kernel
theorem shaped_mark (k : Int) : SeqAt.shaped (.tuple [.str "z", .int k]) = true := by
  unfold SeqAt.shaped
  simp only [PyData.canLay0, PyData.canLayAll0, PyData.depth, PyData.depthAll, ok_z]
  simp
theorem Isi.ss (T : Isi K mg c) : PySem.W.kitOne K (.ref c.summon) (.ref c.summon) = some true := by
  rw [T.is_ c.summon (by simp)]
  simp
theorem Isi.hh (T : Isi K mg c) : PySem.W.kitOne K (.ref c.handon) (.ref c.handon) = some true := by
  rw [T.ih c.handon (by simp)]
  simp
theorem eqv_mark (k : Int) : PyData.eqv (.tuple [.str "z", .int k]) (.tuple [.str "z", .int k]) = true := by simp [PyData.eqv, PyData.eqvAll]
theorem dat_mark {H : Hp} {m : Addr} {k : Int} (h : markAt H m k) : Dat K H (.ref m) (.tuple [.str "z", .int k]) := .tup (SqT.of h) (.cons (.str _) (.cons (.int _) .nil))
theorem selfS (zs : List Str) : ∀ v ∈ zs.map V.str, selfEq v = true := fun v hv => by
  obtain ⟨z, _, rfl⟩ := List.mem_map.mp hv
  rfl
theorem WaysT.snoc {ss : Sts} {a : ArmT} {v : V} (h : wayOf ss a v) : ∀ {as : List ArmT} {vs : List V}, WaysT ss as vs → WaysT ss (as ++ [a]) (vs ++ [v])
  | _, _, .nil => .cons h .nil
  | _, _, .cons h' t => .cons h' (WaysT.snoc h t)
def spLHand (c : Cs) : Sp := fun vs H Q _ => ∃ (p ls lb : Addr) (xs : List V) (ss : Sts) (labs : List Str) (v u : V) (i : Nat) (k : Int) (st : Stp), vs = [.ref p, v, u] ∧ PieceW c H p ls xs ss lb labs ∧ xs[i]? = some v ∧ ss[i]? = some (k, st) ∧ HandR c ss (fun _ => True) H v st u ∧ ∀ H', Same H H' → Q (.bl true) H'
theorem scLHand : FnScope ["_law_piece_here", "_law_step", "_law_other", "_law_ways", "_law_arm"] ["_law_piece_here", "_law_step", "_law_other"] (defScope sLHand) := ⟨rfl, rfl, rfl, by decide +kernel, rfl, by decide +kernel, by decide +kernel⟩
set_option maxHeartbeats 16000000 in
theorem ok_lhand {g : Addr} {gd : FuncData} (F : Fun K "_law_handed" "_law_handed" sLHand g gd) (T : Isi K mg c) (N : NA K c) (M : Mts P w K mg base c) (O : One P w K mg base 1 "_law_due" ["_law_piece_here", "_law_label", "_law_goals"] (spDue c)) : FnOk P w K mg base CX0 3 g gd ["_law_piece_here", "_law_step", "_law_other"] (spLHand c) := by
  obtain ⟨g1, d1, m1, k1, b1, G1⟩ := O.is
  refine F.ok scLHand (fun vs H Q E h => ?_) (fun cdv A outer s H vs Q E hr h => ?_)
  · obtain ⟨p, ls, lb, xs, ss, labs, v, u, i, k, st, rfl, _⟩ := h
    rfl
  · obtain ⟨p, ls, lb, xs, ss, labs, v, u, i, k, st, rfl, hW, hx, hi, hR, q⟩ := h
    have hr1 : Room 1 _ := hr.mono (by decide)
    have hr2 : Room 2 _ := hr.mono (by decide)
    obtain ⟨k', st', hi', hst⟩ := hW.st.get hx
    rw [hi] at hi'
    cases hi'
    have hft := hW.ft i k st hi
    refine ⟨_, pss_cons (ps_if (pt_not (pt_val (pe_callB call_isC (by rfl) T.isn boot_isi (pa_cons (pv 1) (pa_cons (pe_glob (v := .ref c.summon) (by rfl) T.gs rfl) pa_nil)))))
        (pss_one (ps_ret (pe_and (pe_cmpR (op_eqV hr.units) (pe_fld (pv 2) rfl) (pe_fld (pv 1) rfl) (nomark _)) (pe_and (pe_cmpR (op_eq_self hr.units0) (pe_methD0 (pv 2)) (pe_methD0 (pv 1)) (nomark _)) (pe_one (pe_cmpR (op_eq_self hr.units0) (pe_methD0 (pv 2)) (pe_methD0 (pv 1)) (nomark _))))))) pss_nil)
      (pss_cons (ps_set (i := 3) scLHand.nd rfl (Or.inl rfl) (pe_lst pa_nil))
      (pss_cons (ps_for PassesOwn.never rfl (pi_list (pe_fld (pv 1) rfl)) (pg_name (i := 4) scLHand.nd rfl (Or.inl rfl))
        (pss_cons (ps_expr (pe_bm PySem.F.plainAttrs_list PySem.F.slot_list_append PySem.F.type_list_append mt_append (pv 3) (pa_cons (pe_un un_neg pe_int) pa_nil)))
        (pss_one (ps_if (pt_cmpR op_notN (pv 4) pe_non (nomark _)) (pss_one (ps_asg (pe_call G1 hr1 (by rfl) m1 k1 b1 .nil pass0 (pa_cons (pv 0) (pa_cons (pe_ix ix_tup (pv 4) pe_int (fun _ _ => rfl)) (pa_cons (pe_ix ix_tup (pv 4) pe_int (fun _ _ => rfl)) pa_nil)))) (pg_sub (pv 3) (pe_un un_neg pe_int) set_list))) pss_nil))))
      (pss_cons (ps_if (pt_cmpR op_in_seq pe_non (pv 3) (by with_unfolding_all rfl)) (pss_one (ps_ret (pe_and (pe_callB call_isC (by rfl) T.isn boot_isi (pa_cons (pv 2) (pa_cons (pe_glob (v := .ref c.summon) (by rfl) T.gs rfl) pa_nil))) (pe_one (pe_cmpR (op_eq_self hr.units0) (pe_methD0 (pv 2)) (pe_methD0 (pv 1)) (nomark _)))))) pss_nil)
      (pss_cons (ps_if (PW.pt (pw_or (pt_not (pt_val (pe_callB call_isC (by rfl) T.isn boot_isi (pa_cons (pv 2) (pa_cons (pe_glob (v := .ref c.handon) (by rfl) T.gh rfl) pa_nil))))) (pw_or (pt_cmpR (op_neV hr.units) (pe_fld (pv 2) rfl) (pe_fld (pv 1) rfl) (nomark _)) (pw_or1 (pt_cmpR op_ne (pe_fld (pv 2) rfl) pe_str (nomark _)))))) (pss_one (ps_ret pe_bl)) pss_nil)
      (pss_one (ps_ret (pe_and (pe_cmpR (op_eq_self hr.units0) (pe_fld (pv 2) rfl) (pe_lst pa_nil) (nomark _)) (pe_one (pe_cmpR (op_eq_self hr.units0) (pe_fld (pv 2) rfl) (pv 3) (nomark _)))))))))), ?_⟩
    obtain ⟨ty, t1, t2⟩ := T.isS hst
    refine ⟨_, rfl, _, ty, c.summon, isS st, rfl, t1, t2, _, rfl, iteN (fun b => ?_) (fun b => ?_)⟩
    · -- no summon: the same object
      have eu : u = v := by
        cases st with
        | summon => cases b
        | _ => exact hR
      subst eu
      obtain ⟨a, C, dx, fs, m, rfl, e2, e3, e4, e5, e6⟩ := mark_go T N hst
      refine ⟨_, rfl, a, C, dx, fs, _, rfl, e2, e3, e4, e5, _, rfl, a, C, dx, fs, _, rfl, e2, e3, e4, e5, _, _, dat_mark e6, dat_mark e6, shaped_mark k, shaped_mark k, _, rfl, ite_tt' (by rw [if_neg (by decide), eqv_mark]) ?_⟩
      obtain ⟨a1, C1, dx1, fs1, f1, fd1, sp1, x1, x2, x3, x4, x5, x6, x7, x8⟩ := words_go T M hst hft
      cases x1
      refine ⟨_, rfl, a, C1, dx1, fs1, f1, fd1, ["self"], sp1, 2, CX0, E0, rfl, x2, x3, x4, x5, x6, hr2, x7, pass0, x8 _ fun l1 H1 s1 hl1 w1 => ?_⟩
      obtain ⟨a1, C1, dx1, fs1, f1, fd1, sp1, x1, x2, x3, x4, x5, x6, x7, x8⟩ := words_go T M (hst.same s1) hft
      cases x1
      refine ⟨_, rfl, a, C1, dx1, fs1, f1, fd1, ["self"], sp1, 2, CX0, E0, rfl, x2, x3, x4, x5, x6, hr2, x7, pass0, x8 _ fun l2 H2 s2' hl2 w2 => ?_⟩
      have s2 := s1.trans s2'
      refine ⟨l1, l2, _, rfl, rfl, SqL.of (s2' _ _ w1), SqL.of w2, selfS _, _, rfl, ite_tt' rfl ?_⟩
      obtain ⟨a1, C1, dx1, fs1, f1, fd1, sp1, x1, x2, x3, x4, x5, x6, x7, x8⟩ := labels_go T M (hst.same s2) b
      cases x1
      refine ⟨_, rfl, a, C1, dx1, fs1, f1, fd1, ["self"], sp1, 2, CX0, E0, rfl, x2, x3, x4, x5, x6, hr2, x7, pass0, x8 _ fun l3 H3 s3' hl3 w3 => ?_⟩
      have s3 := s2.trans s3'
      obtain ⟨a1, C1, dx1, fs1, f1, fd1, sp1, x1, x2, x3, x4, x5, x6, x7, x8⟩ := labels_go T M (hst.same s3) b
      cases x1
      refine ⟨_, rfl, a, C1, dx1, fs1, f1, fd1, ["self"], sp1, 2, CX0, E0, rfl, x2, x3, x4, x5, x6, hr2, x7, pass0, x8 _ fun l4 H4 s4' hl4 w4 => ?_⟩
      exact ⟨l3, l4, _, rfl, rfl, SqL.of (s4' _ _ w3), SqL.of w4, selfS _, q H4 (s3.trans s4')⟩
    · cases id hst with
      | label => cases b
      | jump => cases b
      | ret => cases b
      | tell => cases b
      | move => cases b
      | @summon a dx m g0 r k vs arms h hm hg0 hr0 ha =>
        obtain ⟨ways, hways, hU⟩ := hR
        have haln := hW.gd.aln i k arms hi
        refine ⟨small 0 (by decide), fun lw0 hlw0 => ?_⟩
        have s0 : Same H (upd H lw0 (.lst [])) := same_new (Same.refl H) hlw0
        refine ⟨_, rfl, a, c.summon, dx, _, _, rfl, s0 _ _ h, T.ts.cl, N.s_arms, rfl, r, rfl, ⟨_, SqL.of (s0 _ _ hr0)⟩, for_list (K := K) (a := r) (xs := vs) (fun j σ H2 => (∃ x4, σ = [some (.ref p), some (.ref a), some u, some (.ref lw0), x4]) ∧ Same H H2 ∧ ∃ us, H2 lw0 = some (.lst us) ∧ WaysT ss (arms.take j) us) ⟨⟨_, rfl⟩, s0, [], upd_same, .nil⟩ (fun j σ H2 _ ⟨_, s2, _⟩ => SqL.of (s2 _ _ hr0)) ?_ ?_⟩
        · rintro j av σ H2 hav ⟨⟨x4, rfl⟩, s2, us, hus, hWT⟩
          obtain ⟨am, eam, hat⟩ := ha.get hav
          have hjl : j < arms.length := (List.getElem?_eq_some_iff.mp eam).1
          have eul : us.length = j := by rw [hWT.len, List.length_take]; omega
          have etk : arms.take (j + 1) = arms.take j ++ [am] := by
            rw [List.take_add_one, eam]
            rfl
          refine ⟨_, rfl, .inl ⟨rfl, _, SqL.of hus⟩, _, rfl, lw0, us, _, rfl, rfl, hus, smallT _ (by omega), ?_⟩
          have s3 : Same H (upd H2 lw0 (.lst (us ++ [V.int (-1)]))) := fun b o hb => by
            rw [upd_ne (ne_of_none hb hlw0)]
            exact s2 _ _ hb
          have w3 : (upd H2 lw0 (.lst (us ++ [V.int (-1)]))) lw0 = some (.lst (us ++ [V.int (-1)])) := upd_same
          generalize upd H2 lw0 (.lst (us ++ [V.int (-1)])) = H3 at s3 w3
          refine ⟨_, rfl, rfl, _, rfl, iteN (fun z => ?_) (fun z => ?_)⟩
          · cases hat with
            | non => simp at z
            | @arm t g l gs ht hg =>
              have hin := List.mem_of_getElem? eam
              refine ⟨_, rfl, _, rfl, t, _, _, _, rfl, rfl, SqT.of (s3 _ _ ht), rfl, _, rfl, t, _, _, _, rfl, rfl, SqT.of (s3 _ _ ht), rfl, p, ls, g, xs, ss, l, gs, rfl, hW.pc.same s3, s3 _ _ hW.ls, hW.st.same s3, hW.gd, s3 _ _ hg, hW.gd.arm i k arms hi l gs hin, hW.gd.gls i k arms hi l gs hin, fun wv H4 s4 told => ?_⟩
              have hix : ixN (us ++ [V.int (-1)]).length (-1) = some us.length := by
                unfold ixN
                rw [if_neg (by decide), List.length_append]
                simp
                omega
              refine ⟨_, rfl, _, rfl, lw0, us ++ [V.int (-1)], -1, us.length, rfl, rfl, s4 _ _ w3, hix, ?_⟩
              rw [set_last]
              refine ⟨⟨_, rfl⟩, fun b o hb => ?_, us ++ [wv], upd_same, ?_⟩
              · rw [upd_ne (ne_of_none hb hlw0)]
                exact s4 _ _ (s3 _ _ hb)
              · rw [etk]
                exact WaysT.snoc (a := some (l, gs)) told hWT
          · cases hat with
            | arm => simp at z
            | non =>
              refine ⟨⟨_, rfl⟩, s3, _, w3, ?_⟩
              rw [etk]
              exact WaysT.snoc (a := none) rfl hWT
        · rintro σ H2 ⟨⟨x4, rfl⟩, s2, us, hus, hWT⟩
          rw [ha.len, List.take_length] at hWT
          have eus := hWT.unique hways
          subst eus
          have fl := hWT.flat
          refine ⟨_, rfl, lw0, us, rfl, .inl (SqL.of hus), rfl, flat_all fl, _, rfl, ?_⟩
          rw [if_neg (by decide), inV_non fl]
          refine iteD (fun z => ?_) (fun z => ?_)
          · have eu : u = .ref a := by
              rcases hU with ⟨_, e⟩ | ⟨e, _⟩
              · exact e
              · exact absurd z e
            subst eu
            have hst2 := hst.same s2
            refine ⟨_, rfl, _, _, c.summon, true, rfl, T.ts.of (s2 _ _ h), T.ss, _, rfl, ite_tt' rfl ?_⟩
            obtain ⟨a1, C1, dx1, fs1, f1, fd1, sp1, x1, x2, x3, x4, x5, x6, x7, x8⟩ := words_go T M hst2 hft
            cases x1
            refine ⟨_, rfl, a, C1, dx1, fs1, f1, fd1, ["self"], sp1, 2, CX0, E0, rfl, x2, x3, x4, x5, x6, hr2, x7, pass0, x8 _ fun l1 H3 s3 hl1 w1 => ?_⟩
            obtain ⟨a1, C1, dx1, fs1, f1, fd1, sp1, x1, x2, x3, x4, x5, x6, x7, x8⟩ := words_go T M (hst2.same s3) hft
            cases x1
            refine ⟨_, rfl, a, C1, dx1, fs1, f1, fd1, ["self"], sp1, 2, CX0, E0, rfl, x2, x3, x4, x5, x6, hr2, x7, pass0, x8 _ fun l2 H4 s4 hl2 w2 => ?_⟩
            exact ⟨l1, l2, _, rfl, rfl, SqL.of (s4 _ _ w1), SqL.of w2, selfS _, q H4 (s2.trans (s3.trans s4))⟩
          · obtain ⟨a', dx', m', g', r', hh, dh, gg, lw, e1, e2, e3, _, _, _, e4, e5, e6⟩ : ∃ a' dx' m' g' r' hh dh gg lw, V.ref a = .ref a' ∧ H a' = some (.ins c.summon dx' [("mark", .ref m'), ("callee", .str "z"), ("atoms", .ref g'), ("arms", .ref r')]) ∧ u = .ref hh ∧ True ∧ True ∧ True ∧
                H hh = some (.ins c.handon dh [("mark", .ref m'), ("callee", .str "z"), ("atoms", .ref gg), ("ways", .ref lw)]) ∧ H gg = some (.lst []) ∧ H lw = some (.lst us) := by
              rcases hU with ⟨e, _⟩ | ⟨_, e⟩
              · exact absurd e z
              · exact e
            cases e1
            rw [h] at e2
            cases e2
            subst e3
            have e42 := s2 _ _ e4
            have h2 := s2 _ _ h
            refine ⟨_, rfl, _, _, c.handon, true, rfl, T.th.of e42, T.hh, _, rfl, iteN (fun y => absurd y (by simp)) (fun _ => ?_)⟩
            refine ⟨_, rfl, hh, c.handon, dh, _, _, rfl, e42, T.th.cl, N.h_mark, rfl, _, rfl, a, c.summon, dx, _, _, rfl, h2, T.ts.cl, N.s_mark, rfl, _, _, dat_mark (s2 _ _ hm), dat_mark (s2 _ _ hm), shaped_mark k, shaped_mark k, _, rfl, ite_ff' (by rw [if_pos rfl, eqv_mark]; rfl) ?_⟩
            refine ⟨_, rfl, hh, c.handon, dh, _, _, rfl, e42, T.th.cl, N.h_callee, rfl, rfl, _, rfl, ite_ff' (by simp) ?_⟩
            refine ⟨_, rfl, hh, c.handon, dh, _, _, rfl, e42, T.th.cl, N.h_atoms, rfl, small 0 (by decide), fun le hle => ?_⟩
            have s5 := same_new (o := .lst []) (Same.refl H2) hle
            have w5 : (upd H2 le (.lst [])) le = some (.lst []) := upd_same
            generalize upd H2 le (.lst []) = H5 at s5 w5
            have s25 := s2.trans s5
            refine ⟨gg, le, [], rfl, rfl, SqL.of (s25 _ _ e5), SqL.of w5, (fun v hv => by cases hv), _, rfl, ite_tt' rfl ?_⟩
            refine ⟨_, rfl, hh, c.handon, dh, _, _, rfl, s5 _ _ e42, T.th.cl, N.h_ways, rfl, _, rfl, lw, lw0, us, rfl, rfl, SqL.of (s25 _ _ e6), SqL.of (s5 _ _ hus), (fun v hv => ?_), q H5 s25⟩
            rcases fl v hv with rfl | ⟨n, rfl⟩ <;> rfl
end
end K45
set_option maxRecDepth 100000
namespace K45
open PySem L2
def spLaw (K : PySem.W.Frag) : Sp := fun vs H Q _ => ∃ (a : Addr) (ns : List Int), vs = [.ref a] ∧ SqL K H a (ns.map V.int) ∧ ∀ H', Q (.bl true) H'
theorem steps_lt4 {m : Int} {i : Nat} (h : i < steps 0 m 4) : (0 : Int) + i * 4 < m := by
  unfold steps at h
  split at h
  · omega
  · omega
theorem scal_flat {v : V} (h : v = .non ∨ ∃ i, v = .int i) : scal v v = true := by
  rcases h with rfl | ⟨i, rfl⟩ <;> rfl
theorem ok_f : PyData.strOk "fault" = true := by decide +kernel
theorem ok_e : PyData.strOk "end" = true := by decide +kernel
theorem ok_w : PyData.strOk "w" = true := by decide +kernel
theorem shaped_triple : SeqAt.shaped (.tuple [.str "z", .list [], .list [.str "fault", .str "end", .str "w"]]) = true := by
  unfold SeqAt.shaped
  simp only [PyData.canLay0, PyData.canLayAll0, PyData.depth, PyData.depthAll, ok_z, ok_f, ok_e, ok_w]
  simp
theorem eqv_triple : PyData.eqv (.tuple [.str "z", .list [], .list [.str "fault", .str "end", .str "w"]]) (.tuple [.str "z", .list [], .list [.str "fault", .str "end", .str "w"]]) = true := by simp [PyData.eqv, PyData.eqvAll]
section
variable {P : Program} {w : World} {K : PySem.W.Frag} {mg : Str → Option Value} {base : Heap} {c : Cs}
theorem dat_triple {H : Hp} {t l1 l2 : Addr} (ht : H t = some (.tup [.str "z", .ref l1, .ref l2])) (h1 : H l1 = some (.lst [])) (h2 : H l2 = some (.lst [.str "fault", .str "end", .str "w"])) : Dat K H (.ref t) (.tuple [.str "z", .list [], .list [.str "fault", .str "end", .str "w"]]) :=
  .tup (SqT.of ht) (.cons (.str _) (.cons (.lst (SqL.of h1) .nil) (.cons (.lst (SqL.of h2) (.cons (.str _) (.cons (.str _) (.cons (.str _) .nil)))) .nil)))
theorem scLaw : FnScope ["_law_script", "_law_at", "_law_piece_here", "_law_labels", "_law_label", "_law_number", "_law_other", "_law_step", "_law_new"] ["_law_script"] (defScope sLaw) := ⟨rfl, rfl, rfl, by decide +kernel, rfl, by decide +kernel, by decide +kernel⟩
set_option maxHeartbeats 16000000 in
theorem ok_law {g : Addr} {gd : FuncData} (F : Fun K "law" "law" sLaw g gd) (T : Isi K mg c) (N : NA K c) (O1 : One P w K mg base 6 "_law_piece" ["_law_script", "_law_at"] (spPiece K c)) (O2 : One P w K mg base 4 "straight" ["piece", "arm"] (spStraight c)) (O3 : One P w K mg base 1 "_law_atoms" ["_law_number"] spAtoms)
    (O4 : One P w K mg base 1 "_law_due" ["_law_piece_here", "_law_label", "_law_goals"] (spDue c)) (O5 : One P w K mg base 6 "handed" ["code"] (spHanded c)) (O6 : One P w K mg base 3 "_law_handed" ["_law_piece_here", "_law_step", "_law_other"] (spLHand c)) (C1 : CMk P w K mg base 1 "Code" c.code ["self", "pieces"] (spNCode c.code)) :
    FnOk P w K mg base CX0 8 g gd ["_law_script"] (spLaw K) := by
  obtain ⟨g1, d1, m1, k1, b1, G1⟩ := O1.is
  obtain ⟨g2, d2, m2, k2, b2, G2⟩ := O2.is
  obtain ⟨g3, d3, m3, k3, b3, G3⟩ := O3.is
  obtain ⟨g4, d4, m4, k4, b4, G4⟩ := O4.is
  obtain ⟨g5, d5, m5, k5, b5, G5⟩ := O5.is
  obtain ⟨g6, d6, m6, k6, b6, G6⟩ := O6.is
  obtain ⟨p1, q1, n1, M1, e1, A1⟩ := C1.is
  refine F.ok scLaw (fun vs H Q E h => ?_) (fun cdv A outer s H vs Q E hr h => ?_)
  · obtain ⟨a, ns, rfl, _⟩ := h
    rfl
  · obtain ⟨a, ns, rfl, hS, kq⟩ := h
    have hr1 : Room 1 _ := hr.mono (by decide)
    have hr2 : Room 2 _ := hr.mono (by decide)
    have hr3 : Room 3 _ := hr.mono (by decide)
    have hr4 : Room 4 _ := hr.mono (by decide)
    have hr6 : Room 6 _ := hr.mono (by decide)
    refine ⟨_, pss_cons (ps_for PassesOwn.never rfl (pi_range3 (by rfl) T.rng (pa_cons pe_int (pa_cons (pe_op op_add (pe_callB (call_min2 rfl) (by rfl) T.min boot_min (pa_cons (pe_callB call_len_seq (by rfl) T.len PySem.boot_len (pa_cons (pv 0) pa_nil)) (pa_cons pe_int pa_nil))) pe_int) (pa_cons pe_int pa_nil)))) (pg_name (i := 1) scLaw.nd rfl (Or.inl rfl))
        (pss_cons (ps_asg (pe_call G1 hr6 (by rfl) m1 k1 b1 .nil pass0 (pa_cons (pv 0) (pa_cons (pv 1) pa_nil))) (pg_tup rfl (pgs_cons (pg_name (i := 2) scLaw.nd rfl (Or.inl rfl)) (pgs_cons (pg_name (i := 3) scLaw.nd rfl (Or.inl rfl)) pgs_nil))))
        (pss_cons (ps_for PassesOwn.never rfl (pi_list (pv 3)) (pg_name (i := 4) scLaw.nd rfl (Or.inl rfl))
          (pss_one (ps_for PassesOwn.never rfl (pi_range1 rfl T.rng (pa_cons pe_int pa_nil)) (pg_name (i := 5) scLaw.nd rfl (Or.inl rfl))
            (pss_one (ps_if (pt_cmpR op_ne (pe_call G2 hr4 (by rfl) m2 k2 b2 .nil pass0 (pa_cons (pv 2) (pa_cons (pe_tup (pa_cons (pv 4) (pa_cons (pe_call G3 hr1 (by rfl) m3 k3 b3 .nil pass0 (pa_cons (pv 5) pa_nil)) pa_nil))) pa_nil)))
              (pe_call G4 hr1 (by rfl) m4 k4 b4 .nil pass0 (pa_cons (pv 2) (pa_cons (pv 4) (pa_cons (pe_call G3 hr1 (by rfl) m3 k3 b3 .nil pass0 (pa_cons (pv 5) pa_nil)) pa_nil)))) (nomark _)) (pss_one (ps_ret pe_bl)) pss_nil)))))
        (pss_cons (ps_set (i := 6) scLaw.nd rfl (Or.inl rfl) (pe_ix ix_list (pe_fld (pe_call G5 hr6 (by rfl) m5 k5 b5 .nil pass0 (pa_cons (pe_make M1 A1 hr2 (by rfl) n1 e1 .nil pass0 (pa_cons (pe_lst (pa_cons (pv 2) pa_nil)) pa_nil)) pa_nil)) rfl) pe_int (fun _ _ => rfl)))
        (pss_cons (ps_if (pt_cmpR (op_neV hr.units) (pe_tup (pa_cons (pe_fld (pv 6) rfl) (pa_cons (pe_fld (pv 6) rfl) (pa_cons (pe_fld (pv 6) rfl) pa_nil)))) (pe_tup (pa_cons pe_str (pa_cons (pe_lst pa_nil) (pa_cons (pe_lst (pa_cons pe_str (pa_cons pe_str (pa_cons pe_str pa_nil)))) pa_nil)))) (nomark _)) (pss_one (ps_ret pe_bl)) pss_nil)
        (pss_cons (ps_if (pt_cmpR op_ne (pe_callB call_len_seq (by rfl) T.len PySem.boot_len (pa_cons (pe_fld (pv 6) rfl) pa_nil)) (pe_callB call_len_seq (by rfl) T.len PySem.boot_len (pa_cons (pe_fld (pv 2) rfl) pa_nil)) (nomark _)) (pss_one (ps_ret pe_bl)) pss_nil)
        (pss_one (ps_for PassesOwn.never rfl (pi_zip (by rfl) T.zip (pa_cons (pe_fld (pv 2) rfl) (pa_cons (pe_fld (pv 6) rfl) pa_nil))) (pg_tup rfl (pgs_cons (pg_name (i := 7) scLaw.nd rfl (Or.inl rfl)) (pgs_cons (pg_name (i := 8) scLaw.nd rfl (Or.inl rfl)) pgs_nil)))
          (pss_one (ps_if (pt_not (pt_val (pe_call G6 hr3 (by rfl) m6 k6 b6 .nil pass0 (pa_cons (pv 2) (pa_cons (pv 7) (pa_cons (pv 8) pa_nil)))))) (pss_one (ps_ret pe_bl)) pss_nil))))))))))
      (pss_one (ps_ret pe_bl)), ?_⟩
    have hm : ∀ x : Int, 0 ≤ x → 0 ≤ (if (63 : Int) < x then 63 else x) ∧ (if (63 : Int) < x then 63 else x) ≤ 63 := fun x h => by split <;> omega
    obtain ⟨m0, m1'⟩ := hm ((ns.map V.int).length : Int) (Int.natCast_nonneg _)
    refine ⟨_, rfl, a, _, rfl, .inl hS, _, _, rfl, _, _, rfl, rfl, _, _, _, rfl, ⟨by decide, by decide, by omega, by omega, by decide, by decide⟩, ?_⟩
    refine for_rangeS (fun i σ H3 => (∃ v1 v2 v3 v4 v5 v6 v7 v8, σ = [some (.ref a), v1, v2, v3, v4, v5, v6, v7, v8]) ∧ Same H H3) ⟨⟨_, _, _, _, _, _, _, _, rfl⟩, Same.refl _⟩ ?_ ?_
    · rintro i σ H1 hi ⟨⟨v1, v2, v3, v4, v5, v6, v7, v8, rfl⟩, s1⟩
      have hk := steps_lt4 hi
      refine ⟨_, rfl, _, rfl, a, ns, _, rfl, s1.seq hS, by omega, fun t p ls lb xs ss labs H2 s2' ht hW => ?_⟩
      have s2 := s1.trans s2'
      refine ⟨t, _, rfl, SqT.of ht, rfl, _, _, rfl, _, _, rfl, rfl, ?_⟩
      -- each label
      refine ⟨_, rfl, lb, rfl, ⟨_, SqL.of hW.lb.1⟩, for_list (K := K) (a := lb) (xs := labs.map V.str) (fun j σ H3 => (∃ u1 u4 u5 u6 u7 u8, σ = [some (.ref a), u1, some (.ref p), some (.ref lb), u4, u5, u6, u7, u8]) ∧ Same H2 H3) ⟨⟨_, _, _, _, _, _, rfl⟩, Same.refl _⟩ (fun j σ H3 _ ⟨_, s3⟩ => SqL.of (s3 _ _ hW.lb.1)) ?_ ?_⟩
      · rintro j lv σ H3 hlv ⟨⟨u1, u4, u5, u6, u7, u8, rfl⟩, s3⟩
        obtain ⟨l, hl, rfl⟩ := List.mem_map.mp (List.mem_of_getElem? hlv)
        have hsp := hW.sp l hl
        refine ⟨6, rfl, by decide, by decide, for_range (n := 6) (fun j σ H4 => (∃ u1 u5 u6 u7 u8, σ = [some (.ref a), u1, some (.ref p), some (.ref lb), some (.str l), u5, u6, u7, u8]) ∧ Same H2 H4) ⟨⟨_, _, _, _, _, rfl⟩, s3⟩ ?_ ?_⟩
        · rintro n σ H4 hn ⟨⟨u1, u5, u6, u7, u8, rfl⟩, s4⟩
          have hW4 := hW.same s4
          refine ⟨_, rfl, _, rfl, _, rfl, n, by rw [Int.zero_add]; rfl, hn, fun lg gs H5 s5 hlg hg egs => ⟨small 2 (by decide), fun tt htt => ?_⟩⟩
          have hgo := atomsL_ok gs (List.mem_of_getElem? egs)
          have s6 := s5.trans (same_new (o := .tup [V.str l, V.ref lg]) (Same.refl H5) htt)
          have wt : (upd H5 tt (.tup [V.str l, V.ref lg])) tt = some (.tup [V.str l, V.ref lg]) := upd_same
          have wg : (upd H5 tt (.tup [V.str l, V.ref lg])) lg = some (.lst (gs.map V.str)) := same_new (o := .tup [V.str l, V.ref lg]) (Same.refl H5) htt _ _ hg
          generalize upd H5 tt (.tup [V.str l, V.ref lg]) = H6 at s6 wt wg
          have hW6 := hW4.same s6
          refine ⟨p, ls, tt, lg, xs, ss, l, gs, rfl, hW6.pc, hW6.ls, hW6.st, hW.gd, wt, wg, hsp, hgo.strsK, fun v1' H7 s7 told1 => ?_⟩
          have s67 := s6.trans s7
          refine ⟨_, rfl, _, rfl, _, rfl, n, by rw [Int.zero_add]; rfl, hn, fun lg2 gs2 H8 s8 hlg2 hg2 egs2 => ?_⟩
          have s68 := s67.trans s8
          have hW8 := hW4.same s68
          rw [egs] at egs2
          cases egs2
          refine ⟨p, ls, lg2, xs, ss, l, gs, rfl, hW8.pc, hW8.ls, hW8.st, hW.gd, hg2, hsp, hgo.strsK, fun v2' H9 s9 told2 => ?_⟩
          have ev := told1.unique told2
          subst ev
          refine ⟨scal_flat (told_flat told1), _, rfl, ite_ff' (by simp) ?_⟩
          exact ⟨⟨_, _, _, _, _, rfl⟩, s4.trans (s68.trans s9)⟩
        · rintro σ H4 ⟨⟨u1, u5, u6, u7, u8, rfl⟩, s4⟩
          exact ⟨⟨_, _, _, _, _, _, rfl⟩, s4⟩
      · rintro σ H3 ⟨⟨u1, u4, u5, u6, u7, u8, rfl⟩, s3⟩
        have hW3 := hW.same s3
        refine ⟨_, rfl, small 1 (by decide), fun lc hlc => ?_⟩
        have s4 := same_new (o := .lst [V.ref p]) (Same.refl H3) hlc
        have w4 : (upd H3 lc (.lst [V.ref p])) lc = some (.lst [V.ref p]) := upd_same
        generalize upd H3 lc (.lst [V.ref p]) = H4 at s4 w4
        refine fun co dco hco hdco hne => ?_
        refine ⟨co, dco, lc, _, rfl, upd_same, mk_at hco hdco w4, fun H5 z0 sd h5 hz0 hf0 => ⟨rfl, ?_⟩⟩
        have s5 := s4.trans (mk_same hco hdco sd)
        have hW5 := hW3.same s5
        refine ⟨co, p, ls, xs, ss, rfl, ⟨dco, z0, h5, hz0⟩, hW5.pc, hW5.ls, hW5.st, hW.gd, fun co' p' H6 s6' hC6 hP6 => ?_⟩
        have s6 := s5.trans s6'
        obtain ⟨dc', lc', c1, c2⟩ := hC6
        refine ⟨co', c.code, dc', _, _, rfl, c1, N.ccl, N.c_pieces, rfl, lc', _, _, _, rfl, rfl, SqL.of c2, rfl, ?_⟩
        obtain ⟨dp', lp', lw', ls', us, _, _, _, _, y1, y2, y3, y4, y5, y6⟩ := hP6
        -- its name, its parameters, its ways
        refine ⟨_, rfl, p', c.piece, dp', _, _, rfl, y1, N.pcl, N.p_name, rfl, _, rfl, p', c.piece, dp', _, _, rfl, y1, N.pcl, N.p_params, rfl, _, rfl, p', c.piece, dp', _, _, rfl, y1, N.pcl, N.p_ways, rfl, small 3 (by decide), fun t1 ht1 => ?_⟩
        have s7 := same_new (o := .tup [V.str "z", V.ref lp', V.ref lw']) (Same.refl H6) ht1
        have w7 : (upd H6 t1 (.tup [V.str "z", V.ref lp', V.ref lw'])) t1 = some (.tup [V.str "z", V.ref lp', V.ref lw']) := upd_same
        generalize upd H6 t1 (.tup [V.str "z", V.ref lp', V.ref lw']) = H7 at s7 w7
        refine ⟨small 0 (by decide), fun t2 ht2 => ?_⟩
        have s8 := same_new (o := .lst []) (Same.refl H7) ht2
        have w8 : (upd H7 t2 (.lst [])) t2 = some (.lst []) := upd_same
        generalize upd H7 t2 (.lst []) = H8 at s8 w8
        refine ⟨small 3 (by decide), fun t3 ht3 => ?_⟩
        have s9 := same_new (o := .lst [V.str "fault", V.str "end", V.str "w"]) (Same.refl H8) ht3
        have w9 : (upd H8 t3 (.lst [V.str "fault", V.str "end", V.str "w"])) t3 = some (.lst [V.str "fault", V.str "end", V.str "w"]) := upd_same
        generalize upd H8 t3 (.lst [V.str "fault", V.str "end", V.str "w"]) = H9 at s9 w9
        refine ⟨small 3 (by decide), fun t4 ht4 => ?_⟩
        have s10 := same_new (o := .tup [V.str "z", V.ref t2, V.ref t3]) (Same.refl H9) ht4
        have w10 : (upd H9 t4 (.tup [V.str "z", V.ref t2, V.ref t3])) t4 = some (.tup [V.str "z", V.ref t2, V.ref t3]) := upd_same
        generalize upd H9 t4 (.tup [V.str "z", V.ref t2, V.ref t3]) = H10 at s10 w10
        have s810 := s9.trans s10
        have s710 := s8.trans s810
        have s610 := s7.trans s710
        refine ⟨_, _, dat_triple (s710 _ _ w7) (s610 _ _ y2) (s610 _ _ y3), dat_triple w10 (s810 _ _ w8) (s10 _ _ w9), shaped_triple, shaped_triple, _, rfl, ite_ff' (by rw [if_pos rfl, eqv_triple]; rfl) ?_⟩
        -- how many steps
        have s310 := s6.trans s610
        have hW10 := hW3.same s310
        obtain ⟨dxp, lpp, lwp, z1, z2, z3⟩ := id hW10.pc
        refine ⟨_, rfl, p', c.piece, dp', _, _, rfl, s610 _ _ y1, N.pcl, N.p_steps, rfl, ls', _, rfl, .inl (SqL.of (s610 _ _ y4)), _, rfl, p, c.piece, dxp, _, _, rfl, z1, N.pcl, N.p_steps, rfl, ls, _, rfl, .inl (SqL.of hW10.ls), rfl, _, rfl, ite_ff' (by rw [y5]; simp) ?_⟩
        -- the steps
        refine ⟨_, rfl, p, c.piece, dxp, _, _, rfl, z1, N.pcl, N.p_steps, rfl, _, rfl, p', c.piece, dp', _, _, rfl, s610 _ _ y1, N.pcl, N.p_steps, rfl, ls, ls', rfl, ⟨_, SqL.of hW10.ls⟩, ⟨_, SqL.of (s610 _ _ y4)⟩, for_zip (K := K) (a := ls) (b := ls') (xs := xs) (ys := us) (fun j σ H11 => (∃ u1 u4 u5 u6 u7 u8, σ = [some (.ref a), u1, some (.ref p), some (.ref lb), u4, u5, u6, u7, u8]) ∧ Same H10 H11) ⟨⟨_, _, _, _, _, _, rfl⟩, Same.refl _⟩ (fun j σ H11 _ ⟨_, s11⟩ => ⟨SqL.of (s11 _ _ hW10.ls), SqL.of (s11 _ _ (s610 _ _ y4))⟩) y5.symm ?_ ?_⟩
        · rintro j x y σ H11 tz hxj hyj ⟨⟨u1, u4, u5, u6, u7, u8, rfl⟩, s11⟩ htz
          have s12' := same_new (o := .tup [x, y]) (Same.refl H11) htz
          have w12 : (upd H11 tz (.tup [x, y])) tz = some (.tup [x, y]) := upd_same
          generalize upd H11 tz (.tup [x, y]) = H12 at s12' w12
          have s12 := s11.trans s12'
          obtain ⟨k, st, hik, _⟩ := hW.st.get hxj
          have hR := (y6 j x y k st hxj hyj hik).keep (B' := fun _ => True) (H' := H12) (fun b o _ ho => ⟨trivial, s12 _ _ (s610 _ _ ho)⟩) fun b o _ ho => s12 _ _ (s610 _ _ ho)
          refine ⟨tz, _, rfl, SqT.of w12, rfl, _, _, rfl, _, _, rfl, rfl, ?_⟩
          refine ⟨_, rfl, _, rfl, _, rfl, p, ls, lb, xs, ss, labs, x, y, j, k, st, rfl, hW10.same s12, hxj, hik, hR, fun H13 s13 => ⟨_, rfl, iteN (fun z => absurd z (by simp)) (fun _ => ?_)⟩⟩
          exact ⟨⟨_, _, _, _, _, _, rfl⟩, s12.trans s13⟩
        · rintro σ H11 ⟨⟨u1, u4, u5, u6, u7, u8, rfl⟩, s11⟩
          exact ⟨⟨_, _, _, _, _, _, _, _, rfl⟩, s2.trans (s3.trans (s310.trans s11))⟩
    · rintro σ H3 ⟨⟨v1, v2, v3, v4, v5, v6, v7, v8, rfl⟩, s3⟩
      exact kq H3
end
end K45
set_option maxRecDepth 100000
namespace K45
open PySem L2
theorem kit_of {K : PySem.W.Frag} {t : Value} {D : Addr} {b : Bool} (hc : PySem.W.isClsIn K D = true) (ht : PySem.W.typeIn K (.ref D) = some (.type "type")) (hs : PySem.W.subIn K t (.ref D) = some b) (hne : t ≠ .ref D) : PySem.W.kitOne K t (.ref D) = some b := by
  have e : ((PySem.W.clsIn K D).isSome && PySem.W.typeIn K (.ref D) == some (.type "type")) = true := by
    have hc' : (PySem.W.clsIn K D).isSome = true := hc
    rw [hc', ht]
    decide
  unfold PySem.W.kitOne PySem.W.kitCls
  rw [if_neg (fun z => hne (beq_iff_eq.mp z))]
  dsimp only
  rw [if_pos e]
  exact hs
theorem kit_self {K : PySem.W.Frag} {t : Value} : PySem.W.kitOne K t t = some true := by
  unfold PySem.W.kitOne
  rw [if_pos (beq_iff_eq.mpr rfl)]
set_option maxHeartbeats 16000000 in
theorem all_mk {l : PySem.W.OpenLaw} {w : World} {K : PySem.W.Frag} {h : Heap} {mg : Str → Option Value} {fa cLa gILa cMo gIMo cTe gITe cJu gIJu cSu gISu cHa gIHa cRe gIRe cPi gIPi cCo gICo cSt gISt gWLa gWMo gWTe gWJu gWRe gWSu gLJu gLSt gDA gDB gDC gDD gDE gDF gDG gDH gDJ gDK gDM gDN gDO gDP gDQ gDR gDS gDT gDU gDV gDW gDX gDL : Addr} (X : K.In h) (G : h.Ns mainGlobals mg) (hfa : mg "law" = some (.ref fa))
    {odILa anILa : Option Addr} {slILa : Array (Option Value)} {ocILa kVILa dcILa pmILa cdILa ctILa : Value}
    {odIMo anIMo : Option Addr} {slIMo : Array (Option Value)} {ocIMo kVIMo dcIMo pmIMo cdIMo ctIMo : Value}
    {odITe anITe : Option Addr} {slITe : Array (Option Value)} {ocITe kVITe dcITe pmITe cdITe ctITe : Value}
    {odIJu anIJu : Option Addr} {slIJu : Array (Option Value)} {ocIJu kVIJu dcIJu pmIJu cdIJu ctIJu : Value}
    {odISu anISu : Option Addr} {slISu : Array (Option Value)} {ocISu kVISu dcISu pmISu cdISu ctISu : Value}
    {odIHa anIHa : Option Addr} {slIHa : Array (Option Value)} {ocIHa kVIHa dcIHa pmIHa cdIHa ctIHa : Value}
    {odIRe anIRe : Option Addr} {slIRe : Array (Option Value)} {ocIRe kVIRe dcIRe pmIRe cdIRe ctIRe : Value}
    {odIPi anIPi : Option Addr} {slIPi : Array (Option Value)} {ocIPi kVIPi dcIPi pmIPi cdIPi ctIPi : Value}
    {odICo anICo : Option Addr} {slICo : Array (Option Value)} {ocICo kVICo dcICo pmICo cdICo ctICo : Value}
    {odISt anISt : Option Addr} {slISt : Array (Option Value)} {ocISt kVISt dcISt pmISt cdISt ctISt : Value}
    {odWLa anWLa : Option Addr} {slWLa : Array (Option Value)} {ocWLa kVWLa dcWLa pmWLa cdWLa ctWLa : Value}
    {odWMo anWMo : Option Addr} {slWMo : Array (Option Value)} {ocWMo kVWMo dcWMo pmWMo cdWMo ctWMo : Value}
    {odWTe anWTe : Option Addr} {slWTe : Array (Option Value)} {ocWTe kVWTe dcWTe pmWTe cdWTe ctWTe : Value}
    {odWJu anWJu : Option Addr} {slWJu : Array (Option Value)} {ocWJu kVWJu dcWJu pmWJu cdWJu ctWJu : Value}
    {odWRe anWRe : Option Addr} {slWRe : Array (Option Value)} {ocWRe kVWRe dcWRe pmWRe cdWRe ctWRe : Value}
    {odWSu anWSu : Option Addr} {slWSu : Array (Option Value)} {ocWSu kVWSu dcWSu pmWSu cdWSu ctWSu : Value}
    {odLJu anLJu : Option Addr} {slLJu : Array (Option Value)} {ocLJu kVLJu dcLJu pmLJu cdLJu ctLJu : Value}
    {odLSt anLSt : Option Addr} {slLSt : Array (Option Value)} {ocLSt kVLSt dcLSt pmLSt cdLSt ctLSt : Value}
    {odDA anDA : Option Addr} {slDA : Array (Option Value)} {ocDA kVDA dcDA pmDA cdDA ctDA : Value}
    {odDB anDB : Option Addr} {slDB : Array (Option Value)} {ocDB kVDB dcDB pmDB cdDB ctDB : Value}
    {odDC anDC : Option Addr} {slDC : Array (Option Value)} {ocDC kVDC dcDC pmDC cdDC ctDC : Value}
    {odDD anDD : Option Addr} {slDD : Array (Option Value)} {ocDD kVDD dcDD pmDD cdDD ctDD : Value}
    {odDE anDE : Option Addr} {slDE : Array (Option Value)} {ocDE kVDE dcDE pmDE cdDE ctDE : Value}
    {odDF anDF : Option Addr} {slDF : Array (Option Value)} {ocDF kVDF dcDF pmDF cdDF ctDF : Value}
    {odDG anDG : Option Addr} {slDG : Array (Option Value)} {ocDG kVDG dcDG pmDG cdDG ctDG : Value}
    {odDH anDH : Option Addr} {slDH : Array (Option Value)} {ocDH kVDH dcDH pmDH cdDH ctDH : Value}
    {odDJ anDJ : Option Addr} {slDJ : Array (Option Value)} {ocDJ kVDJ dcDJ pmDJ cdDJ ctDJ : Value}
    {odDK anDK : Option Addr} {slDK : Array (Option Value)} {ocDK kVDK dcDK pmDK cdDK ctDK : Value}
    {odDM anDM : Option Addr} {slDM : Array (Option Value)} {ocDM kVDM dcDM pmDM cdDM ctDM : Value}
    {odDN anDN : Option Addr} {slDN : Array (Option Value)} {ocDN kVDN dcDN pmDN cdDN ctDN : Value}
    {odDO anDO : Option Addr} {slDO : Array (Option Value)} {ocDO kVDO dcDO pmDO cdDO ctDO : Value}
    {odDP anDP : Option Addr} {slDP : Array (Option Value)} {ocDP kVDP dcDP pmDP cdDP ctDP : Value}
    {odDQ anDQ : Option Addr} {slDQ : Array (Option Value)} {ocDQ kVDQ dcDQ pmDQ cdDQ ctDQ : Value}
    {odDR anDR : Option Addr} {slDR : Array (Option Value)} {ocDR kVDR dcDR pmDR cdDR ctDR : Value}
    {odDS anDS : Option Addr} {slDS : Array (Option Value)} {ocDS kVDS dcDS pmDS cdDS ctDS : Value}
    {odDT anDT : Option Addr} {slDT : Array (Option Value)} {ocDT kVDT dcDT pmDT cdDT ctDT : Value}
    {odDU anDU : Option Addr} {slDU : Array (Option Value)} {ocDU kVDU dcDU pmDU cdDU ctDU : Value}
    {odDV anDV : Option Addr} {slDV : Array (Option Value)} {ocDV kVDV dcDV pmDV cdDV ctDV : Value}
    {odDW anDW : Option Addr} {slDW : Array (Option Value)} {ocDW kVDW dcDW pmDW cdDW ctDW : Value}
    {odDX anDX : Option Addr} {slDX : Array (Option Value)} {ocDX kVDX dcDX pmDX cdDX ctDX : Value}
    {odDL anDL : Option Addr} {slDL : Array (Option Value)} {ocDL kVDL dcDL pmDL cdDL ctDL : Value}
    (aLa : PySem.W.nsIn K mainGlobals "Label" = some (some (.ref cLa)))
    (pgLa : PySem.W.plainGet K cLa Str.empty = true)
    (hdLa : PySem.W.hasDictIn K cLa = true)
    (poLa : PySem.W.plainOver K cLa = true)
    (saLa : PySem.W.findIn K (.ref cLa) "__setattr__" = some (some (.builtin "object.__setattr__")))
    (nLa_mark : PySem.W.findIn K (.ref cLa) "mark" = some none)
    (nLa_label : PySem.W.findIn K (.ref cLa) "label" = some none)
    (mkLa : PySem.W.makesIn K cLa = true)
    (iLa : PySem.W.findIn K (.ref cLa) "__init__" = some (some (.ref gILa)))
    (fnLa : PySem.W.isFn K (.ref gILa) = true)
    (kcLa : PySem.W.keepIn K (.ref cLa) = true)
    (lILa : K.lookup gILa = some ⟨ocILa, odILa, .func (PySem.W.fnOf "__init__" "Label.__init__" (defArgs sLabelI) (defBody sLabelI) (defScope sLabelI) .none kVILa dcILa pmILa anILa cdILa ctILa), slILa⟩)
    (ccILa : PySem.W.codeIn K cdILa "Label.__init__" = true)
    (kpILa : PySem.W.keepIn K (.ref gILa) = true)
    (aMo : PySem.W.nsIn K mainGlobals "Move" = some (some (.ref cMo)))
    (pgMo : PySem.W.plainGet K cMo Str.empty = true)
    (hdMo : PySem.W.hasDictIn K cMo = true)
    (poMo : PySem.W.plainOver K cMo = true)
    (saMo : PySem.W.findIn K (.ref cMo) "__setattr__" = some (some (.builtin "object.__setattr__")))
    (nMo_mark : PySem.W.findIn K (.ref cMo) "mark" = some none)
    (nMo_goal : PySem.W.findIn K (.ref cMo) "goal" = some none)
    (nMo_atom : PySem.W.findIn K (.ref cMo) "atom" = some none)
    (mkMo : PySem.W.makesIn K cMo = true)
    (iMo : PySem.W.findIn K (.ref cMo) "__init__" = some (some (.ref gIMo)))
    (fnMo : PySem.W.isFn K (.ref gIMo) = true)
    (kcMo : PySem.W.keepIn K (.ref cMo) = true)
    (lIMo : K.lookup gIMo = some ⟨ocIMo, odIMo, .func (PySem.W.fnOf "__init__" "Move.__init__" (defArgs sMoveI) (defBody sMoveI) (defScope sMoveI) .none kVIMo dcIMo pmIMo anIMo cdIMo ctIMo), slIMo⟩)
    (ccIMo : PySem.W.codeIn K cdIMo "Move.__init__" = true)
    (kpIMo : PySem.W.keepIn K (.ref gIMo) = true)
    (aTe : PySem.W.nsIn K mainGlobals "Tell" = some (some (.ref cTe)))
    (pgTe : PySem.W.plainGet K cTe Str.empty = true)
    (hdTe : PySem.W.hasDictIn K cTe = true)
    (poTe : PySem.W.plainOver K cTe = true)
    (saTe : PySem.W.findIn K (.ref cTe) "__setattr__" = some (some (.builtin "object.__setattr__")))
    (nTe_mark : PySem.W.findIn K (.ref cTe) "mark" = some none)
    (nTe_atom : PySem.W.findIn K (.ref cTe) "atom" = some none)
    (mkTe : PySem.W.makesIn K cTe = true)
    (iTe : PySem.W.findIn K (.ref cTe) "__init__" = some (some (.ref gITe)))
    (fnTe : PySem.W.isFn K (.ref gITe) = true)
    (kcTe : PySem.W.keepIn K (.ref cTe) = true)
    (lITe : K.lookup gITe = some ⟨ocITe, odITe, .func (PySem.W.fnOf "__init__" "Tell.__init__" (defArgs sTellI) (defBody sTellI) (defScope sTellI) .none kVITe dcITe pmITe anITe cdITe ctITe), slITe⟩)
    (ccITe : PySem.W.codeIn K cdITe "Tell.__init__" = true)
    (kpITe : PySem.W.keepIn K (.ref gITe) = true)
    (aJu : PySem.W.nsIn K mainGlobals "Jump" = some (some (.ref cJu)))
    (pgJu : PySem.W.plainGet K cJu Str.empty = true)
    (hdJu : PySem.W.hasDictIn K cJu = true)
    (poJu : PySem.W.plainOver K cJu = true)
    (saJu : PySem.W.findIn K (.ref cJu) "__setattr__" = some (some (.builtin "object.__setattr__")))
    (nJu_mark : PySem.W.findIn K (.ref cJu) "mark" = some none)
    (nJu_label : PySem.W.findIn K (.ref cJu) "label" = some none)
    (mkJu : PySem.W.makesIn K cJu = true)
    (iJu : PySem.W.findIn K (.ref cJu) "__init__" = some (some (.ref gIJu)))
    (fnJu : PySem.W.isFn K (.ref gIJu) = true)
    (kcJu : PySem.W.keepIn K (.ref cJu) = true)
    (lIJu : K.lookup gIJu = some ⟨ocIJu, odIJu, .func (PySem.W.fnOf "__init__" "Jump.__init__" (defArgs sJumpI) (defBody sJumpI) (defScope sJumpI) .none kVIJu dcIJu pmIJu anIJu cdIJu ctIJu), slIJu⟩)
    (ccIJu : PySem.W.codeIn K cdIJu "Jump.__init__" = true)
    (kpIJu : PySem.W.keepIn K (.ref gIJu) = true)
    (aSu : PySem.W.nsIn K mainGlobals "Summon" = some (some (.ref cSu)))
    (pgSu : PySem.W.plainGet K cSu Str.empty = true)
    (hdSu : PySem.W.hasDictIn K cSu = true)
    (poSu : PySem.W.plainOver K cSu = true)
    (saSu : PySem.W.findIn K (.ref cSu) "__setattr__" = some (some (.builtin "object.__setattr__")))
    (nSu_mark : PySem.W.findIn K (.ref cSu) "mark" = some none)
    (nSu_callee : PySem.W.findIn K (.ref cSu) "callee" = some none)
    (nSu_atoms : PySem.W.findIn K (.ref cSu) "atoms" = some none)
    (nSu_arms : PySem.W.findIn K (.ref cSu) "arms" = some none)
    (mkSu : PySem.W.makesIn K cSu = true)
    (iSu : PySem.W.findIn K (.ref cSu) "__init__" = some (some (.ref gISu)))
    (fnSu : PySem.W.isFn K (.ref gISu) = true)
    (kcSu : PySem.W.keepIn K (.ref cSu) = true)
    (lISu : K.lookup gISu = some ⟨ocISu, odISu, .func (PySem.W.fnOf "__init__" "Summon.__init__" (defArgs sSummonI) (defBody sSummonI) (defScope sSummonI) .none kVISu dcISu pmISu anISu cdISu ctISu), slISu⟩)
    (ccISu : PySem.W.codeIn K cdISu "Summon.__init__" = true)
    (kpISu : PySem.W.keepIn K (.ref gISu) = true)
    (aHa : PySem.W.nsIn K mainGlobals "Handon" = some (some (.ref cHa)))
    (pgHa : PySem.W.plainGet K cHa Str.empty = true)
    (hdHa : PySem.W.hasDictIn K cHa = true)
    (poHa : PySem.W.plainOver K cHa = true)
    (saHa : PySem.W.findIn K (.ref cHa) "__setattr__" = some (some (.builtin "object.__setattr__")))
    (nHa_mark : PySem.W.findIn K (.ref cHa) "mark" = some none)
    (nHa_callee : PySem.W.findIn K (.ref cHa) "callee" = some none)
    (nHa_atoms : PySem.W.findIn K (.ref cHa) "atoms" = some none)
    (nHa_ways : PySem.W.findIn K (.ref cHa) "ways" = some none)
    (mkHa : PySem.W.makesIn K cHa = true)
    (iHa : PySem.W.findIn K (.ref cHa) "__init__" = some (some (.ref gIHa)))
    (fnHa : PySem.W.isFn K (.ref gIHa) = true)
    (kcHa : PySem.W.keepIn K (.ref cHa) = true)
    (lIHa : K.lookup gIHa = some ⟨ocIHa, odIHa, .func (PySem.W.fnOf "__init__" "Handon.__init__" (defArgs sHandonI) (defBody sHandonI) (defScope sHandonI) .none kVIHa dcIHa pmIHa anIHa cdIHa ctIHa), slIHa⟩)
    (ccIHa : PySem.W.codeIn K cdIHa "Handon.__init__" = true)
    (kpIHa : PySem.W.keepIn K (.ref gIHa) = true)
    (aRe : PySem.W.nsIn K mainGlobals "Return" = some (some (.ref cRe)))
    (pgRe : PySem.W.plainGet K cRe Str.empty = true)
    (hdRe : PySem.W.hasDictIn K cRe = true)
    (poRe : PySem.W.plainOver K cRe = true)
    (saRe : PySem.W.findIn K (.ref cRe) "__setattr__" = some (some (.builtin "object.__setattr__")))
    (nRe_mark : PySem.W.findIn K (.ref cRe) "mark" = some none)
    (nRe_way : PySem.W.findIn K (.ref cRe) "way" = some none)
    (nRe_atoms : PySem.W.findIn K (.ref cRe) "atoms" = some none)
    (mkRe : PySem.W.makesIn K cRe = true)
    (iRe : PySem.W.findIn K (.ref cRe) "__init__" = some (some (.ref gIRe)))
    (fnRe : PySem.W.isFn K (.ref gIRe) = true)
    (kcRe : PySem.W.keepIn K (.ref cRe) = true)
    (lIRe : K.lookup gIRe = some ⟨ocIRe, odIRe, .func (PySem.W.fnOf "__init__" "Return.__init__" (defArgs sReturnI) (defBody sReturnI) (defScope sReturnI) .none kVIRe dcIRe pmIRe anIRe cdIRe ctIRe), slIRe⟩)
    (ccIRe : PySem.W.codeIn K cdIRe "Return.__init__" = true)
    (kpIRe : PySem.W.keepIn K (.ref gIRe) = true)
    (aPi : PySem.W.nsIn K mainGlobals "Piece" = some (some (.ref cPi)))
    (pgPi : PySem.W.plainGet K cPi Str.empty = true)
    (hdPi : PySem.W.hasDictIn K cPi = true)
    (poPi : PySem.W.plainOver K cPi = true)
    (saPi : PySem.W.findIn K (.ref cPi) "__setattr__" = some (some (.builtin "object.__setattr__")))
    (nPi_name : PySem.W.findIn K (.ref cPi) "name" = some none)
    (nPi_params : PySem.W.findIn K (.ref cPi) "params" = some none)
    (nPi_ways : PySem.W.findIn K (.ref cPi) "ways" = some none)
    (nPi_steps : PySem.W.findIn K (.ref cPi) "steps" = some none)
    (mkPi : PySem.W.makesIn K cPi = true)
    (iPi : PySem.W.findIn K (.ref cPi) "__init__" = some (some (.ref gIPi)))
    (fnPi : PySem.W.isFn K (.ref gIPi) = true)
    (kcPi : PySem.W.keepIn K (.ref cPi) = true)
    (lIPi : K.lookup gIPi = some ⟨ocIPi, odIPi, .func (PySem.W.fnOf "__init__" "Piece.__init__" (defArgs sPieceI) (defBody sPieceI) (defScope sPieceI) .none kVIPi dcIPi pmIPi anIPi cdIPi ctIPi), slIPi⟩)
    (ccIPi : PySem.W.codeIn K cdIPi "Piece.__init__" = true)
    (kpIPi : PySem.W.keepIn K (.ref gIPi) = true)
    (aCo : PySem.W.nsIn K mainGlobals "Code" = some (some (.ref cCo)))
    (pgCo : PySem.W.plainGet K cCo Str.empty = true)
    (hdCo : PySem.W.hasDictIn K cCo = true)
    (poCo : PySem.W.plainOver K cCo = true)
    (saCo : PySem.W.findIn K (.ref cCo) "__setattr__" = some (some (.builtin "object.__setattr__")))
    (nCo_pieces : PySem.W.findIn K (.ref cCo) "pieces" = some none)
    (mkCo : PySem.W.makesIn K cCo = true)
    (iCo : PySem.W.findIn K (.ref cCo) "__init__" = some (some (.ref gICo)))
    (fnCo : PySem.W.isFn K (.ref gICo) = true)
    (kcCo : PySem.W.keepIn K (.ref cCo) = true)
    (lICo : K.lookup gICo = some ⟨ocICo, odICo, .func (PySem.W.fnOf "__init__" "Code.__init__" (defArgs sCodeI) (defBody sCodeI) (defScope sCodeI) .none kVICo dcICo pmICo anICo cdICo ctICo), slICo⟩)
    (ccICo : PySem.W.codeIn K cdICo "Code.__init__" = true)
    (kpICo : PySem.W.keepIn K (.ref gICo) = true)
    (caLa : PySem.W.findIn K (.ref cLa) "__class__" = some (some (.builtin "object.__class__")))
    (moLa : PySem.W.mroIn K cLa (.type "object") = some true)
    (caMo : PySem.W.findIn K (.ref cMo) "__class__" = some (some (.builtin "object.__class__")))
    (moMo : PySem.W.mroIn K cMo (.type "object") = some true)
    (caTe : PySem.W.findIn K (.ref cTe) "__class__" = some (some (.builtin "object.__class__")))
    (moTe : PySem.W.mroIn K cTe (.type "object") = some true)
    (caJu : PySem.W.findIn K (.ref cJu) "__class__" = some (some (.builtin "object.__class__")))
    (moJu : PySem.W.mroIn K cJu (.type "object") = some true)
    (caSu : PySem.W.findIn K (.ref cSu) "__class__" = some (some (.builtin "object.__class__")))
    (moSu : PySem.W.mroIn K cSu (.type "object") = some true)
    (caHa : PySem.W.findIn K (.ref cHa) "__class__" = some (some (.builtin "object.__class__")))
    (moHa : PySem.W.mroIn K cHa (.type "object") = some true)
    (caRe : PySem.W.findIn K (.ref cRe) "__class__" = some (some (.builtin "object.__class__")))
    (moRe : PySem.W.mroIn K cRe (.type "object") = some true)
    (hn : PySem.W.specialIn K (.builtin "object.__class__") "__get__" = some (some (.builtin "getset_descriptor.__get__")))
    (ht : PySem.W.takesIn K (.builtin "object.__class__") = some true)
    (clLa : PySem.W.isClsIn K cLa = true)
    (tyLa : PySem.W.typeIn K (.ref cLa) = some (.type "type"))
    (uMoLa : PySem.W.subIn K (.ref cMo) (.ref cLa) = some false)
    (uTeLa : PySem.W.subIn K (.ref cTe) (.ref cLa) = some false)
    (uJuLa : PySem.W.subIn K (.ref cJu) (.ref cLa) = some false)
    (uSuLa : PySem.W.subIn K (.ref cSu) (.ref cLa) = some false)
    (uHaLa : PySem.W.subIn K (.ref cHa) (.ref cLa) = some false)
    (uReLa : PySem.W.subIn K (.ref cRe) (.ref cLa) = some false)
    (clJu : PySem.W.isClsIn K cJu = true)
    (tyJu : PySem.W.typeIn K (.ref cJu) = some (.type "type"))
    (uLaJu : PySem.W.subIn K (.ref cLa) (.ref cJu) = some false)
    (uMoJu : PySem.W.subIn K (.ref cMo) (.ref cJu) = some false)
    (uTeJu : PySem.W.subIn K (.ref cTe) (.ref cJu) = some false)
    (uSuJu : PySem.W.subIn K (.ref cSu) (.ref cJu) = some false)
    (uHaJu : PySem.W.subIn K (.ref cHa) (.ref cJu) = some false)
    (uReJu : PySem.W.subIn K (.ref cRe) (.ref cJu) = some false)
    (clRe : PySem.W.isClsIn K cRe = true)
    (tyRe : PySem.W.typeIn K (.ref cRe) = some (.type "type"))
    (uLaRe : PySem.W.subIn K (.ref cLa) (.ref cRe) = some false)
    (uMoRe : PySem.W.subIn K (.ref cMo) (.ref cRe) = some false)
    (uTeRe : PySem.W.subIn K (.ref cTe) (.ref cRe) = some false)
    (uJuRe : PySem.W.subIn K (.ref cJu) (.ref cRe) = some false)
    (uSuRe : PySem.W.subIn K (.ref cSu) (.ref cRe) = some false)
    (uHaRe : PySem.W.subIn K (.ref cHa) (.ref cRe) = some false)
    (clSu : PySem.W.isClsIn K cSu = true)
    (tySu : PySem.W.typeIn K (.ref cSu) = some (.type "type"))
    (uLaSu : PySem.W.subIn K (.ref cLa) (.ref cSu) = some false)
    (uMoSu : PySem.W.subIn K (.ref cMo) (.ref cSu) = some false)
    (uTeSu : PySem.W.subIn K (.ref cTe) (.ref cSu) = some false)
    (uJuSu : PySem.W.subIn K (.ref cJu) (.ref cSu) = some false)
    (uHaSu : PySem.W.subIn K (.ref cHa) (.ref cSu) = some false)
    (uReSu : PySem.W.subIn K (.ref cRe) (.ref cSu) = some false)
    (clHa : PySem.W.isClsIn K cHa = true)
    (tyHa : PySem.W.typeIn K (.ref cHa) = some (.type "type"))
    (uLaHa : PySem.W.subIn K (.ref cLa) (.ref cHa) = some false)
    (uMoHa : PySem.W.subIn K (.ref cMo) (.ref cHa) = some false)
    (uTeHa : PySem.W.subIn K (.ref cTe) (.ref cHa) = some false)
    (uJuHa : PySem.W.subIn K (.ref cJu) (.ref cHa) = some false)
    (uSuHa : PySem.W.subIn K (.ref cSu) (.ref cHa) = some false)
    (uReHa : PySem.W.subIn K (.ref cRe) (.ref cHa) = some false)
    (uN : PySem.W.subIn K (.type "NoneType") (.ref cRe) = some false)
    (nd : [cLa, cMo, cTe, cJu, cSu, cHa, cRe].Nodup)
    (aSt : PySem.W.nsIn K mainGlobals "Step" = some (some (.ref cSt)))
    (rdSt : PySem.W.readsIn K cSt (.type "type") = true)
    (gaSt : PySem.W.specialIn K (.ref cSt) "__getattribute__" = some (some (.builtin "type.__getattribute__")))
    (atSt : PySem.W.findCls K (.ref cSt) (.type "type") "__init__" = some (.val (.ref gISt)))
    (lISt : K.lookup gISt = some ⟨ocISt, odISt, .func (PySem.W.fnOf "__init__" "Step.__init__" (defArgs sStepI) (defBody sStepI) (defScope sStepI) .none kVISt dcISt pmISt anISt cdISt ctISt), slISt⟩)
    (ccISt : PySem.W.codeIn K cdISt "Step.__init__" = true)
    (kpISt : PySem.W.keepIn K (.ref gISt) = true)
    (atWLa : PySem.W.findIn K (.ref cLa) "words" = some (some (.ref gWLa)))
    (fnWLa : PySem.W.isFn K (.ref gWLa) = true)
    (lWLa : K.lookup gWLa = some ⟨ocWLa, odWLa, .func (PySem.W.fnOf "words" "Label.words" (defArgs sLblW) (defBody sLblW) (defScope sLblW) .none kVWLa dcWLa pmWLa anWLa cdWLa ctWLa), slWLa⟩)
    (ccWLa : PySem.W.codeIn K cdWLa "Label.words" = true)
    (kpWLa : PySem.W.keepIn K (.ref gWLa) = true)
    (atWMo : PySem.W.findIn K (.ref cMo) "words" = some (some (.ref gWMo)))
    (fnWMo : PySem.W.isFn K (.ref gWMo) = true)
    (lWMo : K.lookup gWMo = some ⟨ocWMo, odWMo, .func (PySem.W.fnOf "words" "Move.words" (defArgs sMovW) (defBody sMovW) (defScope sMovW) .none kVWMo dcWMo pmWMo anWMo cdWMo ctWMo), slWMo⟩)
    (ccWMo : PySem.W.codeIn K cdWMo "Move.words" = true)
    (kpWMo : PySem.W.keepIn K (.ref gWMo) = true)
    (atWTe : PySem.W.findIn K (.ref cTe) "words" = some (some (.ref gWTe)))
    (fnWTe : PySem.W.isFn K (.ref gWTe) = true)
    (lWTe : K.lookup gWTe = some ⟨ocWTe, odWTe, .func (PySem.W.fnOf "words" "Tell.words" (defArgs sTelW) (defBody sTelW) (defScope sTelW) .none kVWTe dcWTe pmWTe anWTe cdWTe ctWTe), slWTe⟩)
    (ccWTe : PySem.W.codeIn K cdWTe "Tell.words" = true)
    (kpWTe : PySem.W.keepIn K (.ref gWTe) = true)
    (atWJu : PySem.W.findIn K (.ref cJu) "words" = some (some (.ref gWJu)))
    (fnWJu : PySem.W.isFn K (.ref gWJu) = true)
    (lWJu : K.lookup gWJu = some ⟨ocWJu, odWJu, .func (PySem.W.fnOf "words" "Jump.words" (defArgs sJmpW) (defBody sJmpW) (defScope sJmpW) .none kVWJu dcWJu pmWJu anWJu cdWJu ctWJu), slWJu⟩)
    (ccWJu : PySem.W.codeIn K cdWJu "Jump.words" = true)
    (kpWJu : PySem.W.keepIn K (.ref gWJu) = true)
    (atWRe : PySem.W.findIn K (.ref cRe) "words" = some (some (.ref gWRe)))
    (fnWRe : PySem.W.isFn K (.ref gWRe) = true)
    (lWRe : K.lookup gWRe = some ⟨ocWRe, odWRe, .func (PySem.W.fnOf "words" "Return.words" (defArgs sRetW) (defBody sRetW) (defScope sRetW) .none kVWRe dcWRe pmWRe anWRe cdWRe ctWRe), slWRe⟩)
    (ccWRe : PySem.W.codeIn K cdWRe "Return.words" = true)
    (kpWRe : PySem.W.keepIn K (.ref gWRe) = true)
    (atWSu : PySem.W.findIn K (.ref cSu) "words" = some (some (.ref gWSu)))
    (fnWSu : PySem.W.isFn K (.ref gWSu) = true)
    (lWSu : K.lookup gWSu = some ⟨ocWSu, odWSu, .func (PySem.W.fnOf "words" "Summon.words" (defArgs sSumW) (defBody sSumW) (defScope sSumW) .none kVWSu dcWSu pmWSu anWSu cdWSu ctWSu), slWSu⟩)
    (ccWSu : PySem.W.codeIn K cdWSu "Summon.words" = true)
    (kpWSu : PySem.W.keepIn K (.ref gWSu) = true)
    (atLJu : PySem.W.findIn K (.ref cJu) "labels" = some (some (.ref gLJu)))
    (fnLJu : PySem.W.isFn K (.ref gLJu) = true)
    (lLJu : K.lookup gLJu = some ⟨ocLJu, odLJu, .func (PySem.W.fnOf "labels" "Jump.labels" (defArgs sJmpL) (defBody sJmpL) (defScope sJmpL) .none kVLJu dcLJu pmLJu anLJu cdLJu ctLJu), slLJu⟩)
    (ccLJu : PySem.W.codeIn K cdLJu "Jump.labels" = true)
    (kpLJu : PySem.W.keepIn K (.ref gLJu) = true)
    (atLSLa : PySem.W.findIn K (.ref cLa) "labels" = some (some (.ref gLSt)))
    (atLSMo : PySem.W.findIn K (.ref cMo) "labels" = some (some (.ref gLSt)))
    (atLSTe : PySem.W.findIn K (.ref cTe) "labels" = some (some (.ref gLSt)))
    (atLSRe : PySem.W.findIn K (.ref cRe) "labels" = some (some (.ref gLSt)))
    (fnLSt : PySem.W.isFn K (.ref gLSt) = true)
    (lLSt : K.lookup gLSt = some ⟨ocLSt, odLSt, .func (PySem.W.fnOf "labels" "Step.labels" (defArgs sStpL) (defBody sStpL) (defScope sStpL) .none kVLSt dcLSt pmLSt anLSt cdLSt ctLSt), slLSt⟩)
    (ccLSt : PySem.W.codeIn K cdLSt "Step.labels" = true)
    (kpLSt : PySem.W.keepIn K (.ref gLSt) = true)
    (aDA : PySem.W.nsIn K mainGlobals "label_spots" = some (some (.ref gDA)))
    (lDA : K.lookup gDA = some ⟨ocDA, odDA, .func (PySem.W.fnOf "label_spots" "label_spots" (defArgs sSpots) (defBody sSpots) (defScope sSpots) .none kVDA dcDA pmDA anDA cdDA ctDA), slDA⟩)
    (ccDA : PySem.W.codeIn K cdDA "label_spots" = true)
    (kpDA : PySem.W.keepIn K (.ref gDA) = true)
    (aDB : PySem.W.nsIn K mainGlobals "over_labels" = some (some (.ref gDB)))
    (lDB : K.lookup gDB = some ⟨ocDB, odDB, .func (PySem.W.fnOf "over_labels" "over_labels" (defArgs sOver) (defBody sOver) (defScope sOver) .none kVDB dcDB pmDB anDB cdDB ctDB), slDB⟩)
    (ccDB : PySem.W.codeIn K cdDB "over_labels" = true)
    (kpDB : PySem.W.keepIn K (.ref gDB) = true)
    (aDC : PySem.W.nsIn K mainGlobals "led" = some (some (.ref gDC)))
    (lDC : K.lookup gDC = some ⟨ocDC, odDC, .func (PySem.W.fnOf "led" "led" (defArgs sLed) (defBody sLed) (defScope sLed) .none kVDC dcDC pmDC anDC cdDC ctDC), slDC⟩)
    (ccDC : PySem.W.codeIn K cdDC "led" = true)
    (kpDC : PySem.W.keepIn K (.ref gDC) = true)
    (aDD : PySem.W.nsIn K mainGlobals "straight_way" = some (some (.ref gDD)))
    (lDD : K.lookup gDD = some ⟨ocDD, odDD, .func (PySem.W.fnOf "straight_way" "straight_way" (defArgs sSWay) (defBody sSWay) (defScope sSWay) .none kVDD dcDD pmDD anDD cdDD ctDD), slDD⟩)
    (ccDD : PySem.W.codeIn K cdDD "straight_way" = true)
    (kpDD : PySem.W.keepIn K (.ref gDD) = true)
    (aDE : PySem.W.nsIn K mainGlobals "straight" = some (some (.ref gDE)))
    (lDE : K.lookup gDE = some ⟨ocDE, odDE, .func (PySem.W.fnOf "straight" "straight" (defArgs sStraight) (defBody sStraight) (defScope sStraight) .none kVDE dcDE pmDE anDE cdDE ctDE), slDE⟩)
    (ccDE : PySem.W.codeIn K cdDE "straight" = true)
    (kpDE : PySem.W.keepIn K (.ref gDE) = true)
    (aDF : PySem.W.nsIn K mainGlobals "handed_step" = some (some (.ref gDF)))
    (lDF : K.lookup gDF = some ⟨ocDF, odDF, .func (PySem.W.fnOf "handed_step" "handed_step" (defArgs sHStep) (defBody sHStep) (defScope sHStep) .none kVDF dcDF pmDF anDF cdDF ctDF), slDF⟩)
    (ccDF : PySem.W.codeIn K cdDF "handed_step" = true)
    (kpDF : PySem.W.keepIn K (.ref gDF) = true)
    (aDG : PySem.W.nsIn K mainGlobals "handed_piece" = some (some (.ref gDG)))
    (lDG : K.lookup gDG = some ⟨ocDG, odDG, .func (PySem.W.fnOf "handed_piece" "handed_piece" (defArgs sHPiece) (defBody sHPiece) (defScope sHPiece) .none kVDG dcDG pmDG anDG cdDG ctDG), slDG⟩)
    (ccDG : PySem.W.codeIn K cdDG "handed_piece" = true)
    (kpDG : PySem.W.keepIn K (.ref gDG) = true)
    (aDH : PySem.W.nsIn K mainGlobals "handed" = some (some (.ref gDH)))
    (lDH : K.lookup gDH = some ⟨ocDH, odDH, .func (PySem.W.fnOf "handed" "handed" (defArgs sHanded) (defBody sHanded) (defScope sHanded) .none kVDH dcDH pmDH anDH cdDH ctDH), slDH⟩)
    (ccDH : PySem.W.codeIn K cdDH "handed" = true)
    (kpDH : PySem.W.keepIn K (.ref gDH) = true)
    (aDJ : PySem.W.nsIn K mainGlobals "prefixed" = some (some (.ref gDJ)))
    (lDJ : K.lookup gDJ = some ⟨ocDJ, odDJ, .func (PySem.W.fnOf "prefixed" "prefixed" (defArgs sPref) (defBody sPref) (defScope sPref) .none kVDJ dcDJ pmDJ anDJ cdDJ ctDJ), slDJ⟩)
    (ccDJ : PySem.W.codeIn K cdDJ "prefixed" = true)
    (kpDJ : PySem.W.keepIn K (.ref gDJ) = true)
    (aDK : PySem.W.nsIn K mainGlobals "all_prefixed" = some (some (.ref gDK)))
    (lDK : K.lookup gDK = some ⟨ocDK, odDK, .func (PySem.W.fnOf "all_prefixed" "all_prefixed" (defArgs sAllP) (defBody sAllP) (defScope sAllP) .none kVDK dcDK pmDK anDK cdDK ctDK), slDK⟩)
    (ccDK : PySem.W.codeIn K cdDK "all_prefixed" = true)
    (kpDK : PySem.W.keepIn K (.ref gDK) = true)
    (aDM : PySem.W.nsIn K mainGlobals "arm_again" = some (some (.ref gDM)))
    (lDM : K.lookup gDM = some ⟨ocDM, odDM, .func (PySem.W.fnOf "arm_again" "arm_again" (defArgs sArmA) (defBody sArmA) (defScope sArmA) .none kVDM dcDM pmDM anDM cdDM ctDM), slDM⟩)
    (ccDM : PySem.W.codeIn K cdDM "arm_again" = true)
    (kpDM : PySem.W.keepIn K (.ref gDM) = true)
    (aDN : PySem.W.nsIn K mainGlobals "counted" = some (some (.ref gDN)))
    (lDN : K.lookup gDN = some ⟨ocDN, odDN, .func (PySem.W.fnOf "counted" "counted" (defArgs sCount) (defBody sCount) (defScope sCount) .none kVDN dcDN pmDN anDN cdDN ctDN), slDN⟩)
    (ccDN : PySem.W.codeIn K cdDN "counted" = true)
    (kpDN : PySem.W.keepIn K (.ref gDN) = true)
    (aDO : PySem.W.nsIn K mainGlobals "line_words" = some (some (.ref gDO)))
    (lDO : K.lookup gDO = some ⟨ocDO, odDO, .func (PySem.W.fnOf "line_words" "line_words" (defArgs sLineW) (defBody sLineW) (defScope sLineW) .none kVDO dcDO pmDO anDO cdDO ctDO), slDO⟩)
    (ccDO : PySem.W.codeIn K cdDO "line_words" = true)
    (kpDO : PySem.W.keepIn K (.ref gDO) = true)
    (aDP : PySem.W.nsIn K mainGlobals "_law_cell_at" = some (some (.ref gDP)))
    (lDP : K.lookup gDP = some ⟨ocDP, odDP, .func (PySem.W.fnOf "_law_cell_at" "_law_cell_at" (defArgs sCell) (defBody sCell) (defScope sCell) .none kVDP dcDP pmDP anDP cdDP ctDP), slDP⟩)
    (ccDP : PySem.W.codeIn K cdDP "_law_cell_at" = true)
    (kpDP : PySem.W.keepIn K (.ref gDP) = true)
    (aDQ : PySem.W.nsIn K mainGlobals "_law_mix" = some (some (.ref gDQ)))
    (lDQ : K.lookup gDQ = some ⟨ocDQ, odDQ, .func (PySem.W.fnOf "_law_mix" "_law_mix" (defArgs sMix) (defBody sMix) (defScope sMix) .none kVDQ dcDQ pmDQ anDQ cdDQ ctDQ), slDQ⟩)
    (ccDQ : PySem.W.codeIn K cdDQ "_law_mix" = true)
    (kpDQ : PySem.W.keepIn K (.ref gDQ) = true)
    (aDR : PySem.W.nsIn K mainGlobals "_law_figure" = some (some (.ref gDR)))
    (lDR : K.lookup gDR = some ⟨ocDR, odDR, .func (PySem.W.fnOf "_law_figure" "_law_figure" (defArgs sFig) (defBody sFig) (defScope sFig) .none kVDR dcDR pmDR anDR cdDR ctDR), slDR⟩)
    (ccDR : PySem.W.codeIn K cdDR "_law_figure" = true)
    (kpDR : PySem.W.keepIn K (.ref gDR) = true)
    (aDS : PySem.W.nsIn K mainGlobals "_law_atoms" = some (some (.ref gDS)))
    (lDS : K.lookup gDS = some ⟨ocDS, odDS, .func (PySem.W.fnOf "_law_atoms" "_law_atoms" (defArgs sAtoms) (defBody sAtoms) (defScope sAtoms) .none kVDS dcDS pmDS anDS cdDS ctDS), slDS⟩)
    (ccDS : PySem.W.codeIn K cdDS "_law_atoms" = true)
    (kpDS : PySem.W.keepIn K (.ref gDS) = true)
    (aDT : PySem.W.nsIn K mainGlobals "_law_row" = some (some (.ref gDT)))
    (lDT : K.lookup gDT = some ⟨ocDT, odDT, .func (PySem.W.fnOf "_law_row" "_law_row" (defArgs sRow) (defBody sRow) (defScope sRow) .none kVDT dcDT pmDT anDT cdDT ctDT), slDT⟩)
    (ccDT : PySem.W.codeIn K cdDT "_law_row" = true)
    (kpDT : PySem.W.keepIn K (.ref gDT) = true)
    (aDU : PySem.W.nsIn K mainGlobals "_law_arms" = some (some (.ref gDU)))
    (lDU : K.lookup gDU = some ⟨ocDU, odDU, .func (PySem.W.fnOf "_law_arms" "_law_arms" (defArgs sArms) (defBody sArms) (defScope sArms) .none kVDU dcDU pmDU anDU cdDU ctDU), slDU⟩)
    (ccDU : PySem.W.codeIn K cdDU "_law_arms" = true)
    (kpDU : PySem.W.keepIn K (.ref gDU) = true)
    (aDV : PySem.W.nsIn K mainGlobals "_law_piece" = some (some (.ref gDV)))
    (lDV : K.lookup gDV = some ⟨ocDV, odDV, .func (PySem.W.fnOf "_law_piece" "_law_piece" (defArgs sPiece) (defBody sPiece) (defScope sPiece) .none kVDV dcDV pmDV anDV cdDV ctDV), slDV⟩)
    (ccDV : PySem.W.codeIn K cdDV "_law_piece" = true)
    (kpDV : PySem.W.keepIn K (.ref gDV) = true)
    (aDW : PySem.W.nsIn K mainGlobals "_law_due" = some (some (.ref gDW)))
    (lDW : K.lookup gDW = some ⟨ocDW, odDW, .func (PySem.W.fnOf "_law_due" "_law_due" (defArgs sDue) (defBody sDue) (defScope sDue) .none kVDW dcDW pmDW anDW cdDW ctDW), slDW⟩)
    (ccDW : PySem.W.codeIn K cdDW "_law_due" = true)
    (kpDW : PySem.W.keepIn K (.ref gDW) = true)
    (aDX : PySem.W.nsIn K mainGlobals "_law_handed" = some (some (.ref gDX)))
    (lDX : K.lookup gDX = some ⟨ocDX, odDX, .func (PySem.W.fnOf "_law_handed" "_law_handed" (defArgs sLHand) (defBody sLHand) (defScope sLHand) .none kVDX dcDX pmDX anDX cdDX ctDX), slDX⟩)
    (ccDX : PySem.W.codeIn K cdDX "_law_handed" = true)
    (kpDX : PySem.W.keepIn K (.ref gDX) = true)
    (aDL : PySem.W.nsIn K mainGlobals "law" = some (some (.ref gDL)))
    (lDL : K.lookup gDL = some ⟨ocDL, odDL, .func (PySem.W.fnOf "law" "law" (defArgs sLaw) (defBody sLaw) (defScope sLaw) .none kVDL dcDL pmDL anDL cdDL ctDL), slDL⟩)
    (ccDL : PySem.W.codeIn K cdDL "law" = true)
    (kpDL : PySem.W.keepIn K (.ref gDL) = true)
    (zisn : PySem.W.nsIn K mainGlobals "isinstance" = some none)
    (zlen : PySem.W.nsIn K mainGlobals "len" = some none)
    (zlst : PySem.W.nsIn K mainGlobals "list" = some none)
    (zstr : PySem.W.nsIn K mainGlobals "str" = some none)
    (zrng : PySem.W.nsIn K mainGlobals "range" = some none)
    (zenu : PySem.W.nsIn K mainGlobals "enumerate" = some none)
    (zzip : PySem.W.nsIn K mainGlobals "zip" = some none)
    (zmin : PySem.W.nsIn K mainGlobals "min" = some none) :
    ∃ fd : FuncData, (∀ (s : Shared) (v : Value), BindsTo s fd ⟨[v], []⟩ [("_law_script", v)]) ∧ ∀ base : Heap, K.In base → base.Ns mainGlobals mg → FnOk l.prog w K mg base CX0 8 fa fd ["_law_script"] (spLaw K) := by
  have e := hfa.symm.trans (PySem.W.mg_of X G aDL)
  cases e
  have CLa : Cls K cLa := ⟨pgLa, hdLa, poLa, saLa⟩
  have CMo : Cls K cMo := ⟨pgMo, hdMo, poMo, saMo⟩
  have CTe : Cls K cTe := ⟨pgTe, hdTe, poTe, saTe⟩
  have CJu : Cls K cJu := ⟨pgJu, hdJu, poJu, saJu⟩
  have CSu : Cls K cSu := ⟨pgSu, hdSu, poSu, saSu⟩
  have CHa : Cls K cHa := ⟨pgHa, hdHa, poHa, saHa⟩
  have CRe : Cls K cRe := ⟨pgRe, hdRe, poRe, saRe⟩
  have CPi : Cls K cPi := ⟨pgPi, hdPi, poPi, saPi⟩
  have CCo : Cls K cCo := ⟨pgCo, hdCo, poCo, saCo⟩
  have TLa : TyC K cLa := ⟨CLa, caLa, hn, ht, moLa⟩
  have TMo : TyC K cMo := ⟨CMo, caMo, hn, ht, moMo⟩
  have TTe : TyC K cTe := ⟨CTe, caTe, hn, ht, moTe⟩
  have TJu : TyC K cJu := ⟨CJu, caJu, hn, ht, moJu⟩
  have TSu : TyC K cSu := ⟨CSu, caSu, hn, ht, moSu⟩
  have THa : TyC K cHa := ⟨CHa, caHa, hn, ht, moHa⟩
  have TRe : TyC K cRe := ⟨CRe, caRe, hn, ht, moRe⟩
  let c : Cs := ⟨cLa, cMo, cTe, cJu, cSu, cHa, cRe, cPi, cCo⟩
  have nd' := nd
  simp only [List.nodup_cons, List.mem_cons, List.not_mem_nil, or_false, not_or, List.nodup_nil, and_true, not_false_eq_true] at nd'
  obtain ⟨⟨dLaMo, dLaTe, dLaJu, dLaSu, dLaHa, dLaRe⟩, ⟨dMoTe, dMoJu, dMoSu, dMoHa, dMoRe⟩, ⟨dTeJu, dTeSu, dTeHa, dTeRe⟩, ⟨dJuSu, dJuHa, dJuRe⟩, ⟨dSuHa, dSuRe⟩, dHaRe⟩ := nd'
  have kLaLa : PySem.W.kitOne K (.ref cLa) (.ref cLa) = some true := kit_self
  have kMoLa : PySem.W.kitOne K (.ref cMo) (.ref cLa) = some false := kit_of clLa tyLa uMoLa fun z => (Ne.symm dLaMo) (Value.ref.inj z)
  have kTeLa : PySem.W.kitOne K (.ref cTe) (.ref cLa) = some false := kit_of clLa tyLa uTeLa fun z => (Ne.symm dLaTe) (Value.ref.inj z)
  have kJuLa : PySem.W.kitOne K (.ref cJu) (.ref cLa) = some false := kit_of clLa tyLa uJuLa fun z => (Ne.symm dLaJu) (Value.ref.inj z)
  have kSuLa : PySem.W.kitOne K (.ref cSu) (.ref cLa) = some false := kit_of clLa tyLa uSuLa fun z => (Ne.symm dLaSu) (Value.ref.inj z)
  have kHaLa : PySem.W.kitOne K (.ref cHa) (.ref cLa) = some false := kit_of clLa tyLa uHaLa fun z => (Ne.symm dLaHa) (Value.ref.inj z)
  have kReLa : PySem.W.kitOne K (.ref cRe) (.ref cLa) = some false := kit_of clLa tyLa uReLa fun z => (Ne.symm dLaRe) (Value.ref.inj z)
  have kLaJu : PySem.W.kitOne K (.ref cLa) (.ref cJu) = some false := kit_of clJu tyJu uLaJu fun z => dLaJu (Value.ref.inj z)
  have kMoJu : PySem.W.kitOne K (.ref cMo) (.ref cJu) = some false := kit_of clJu tyJu uMoJu fun z => dMoJu (Value.ref.inj z)
  have kTeJu : PySem.W.kitOne K (.ref cTe) (.ref cJu) = some false := kit_of clJu tyJu uTeJu fun z => dTeJu (Value.ref.inj z)
  have kJuJu : PySem.W.kitOne K (.ref cJu) (.ref cJu) = some true := kit_self
  have kSuJu : PySem.W.kitOne K (.ref cSu) (.ref cJu) = some false := kit_of clJu tyJu uSuJu fun z => (Ne.symm dJuSu) (Value.ref.inj z)
  have kHaJu : PySem.W.kitOne K (.ref cHa) (.ref cJu) = some false := kit_of clJu tyJu uHaJu fun z => (Ne.symm dJuHa) (Value.ref.inj z)
  have kReJu : PySem.W.kitOne K (.ref cRe) (.ref cJu) = some false := kit_of clJu tyJu uReJu fun z => (Ne.symm dJuRe) (Value.ref.inj z)
  have kLaRe : PySem.W.kitOne K (.ref cLa) (.ref cRe) = some false := kit_of clRe tyRe uLaRe fun z => dLaRe (Value.ref.inj z)
  have kMoRe : PySem.W.kitOne K (.ref cMo) (.ref cRe) = some false := kit_of clRe tyRe uMoRe fun z => dMoRe (Value.ref.inj z)
  have kTeRe : PySem.W.kitOne K (.ref cTe) (.ref cRe) = some false := kit_of clRe tyRe uTeRe fun z => dTeRe (Value.ref.inj z)
  have kJuRe : PySem.W.kitOne K (.ref cJu) (.ref cRe) = some false := kit_of clRe tyRe uJuRe fun z => dJuRe (Value.ref.inj z)
  have kSuRe : PySem.W.kitOne K (.ref cSu) (.ref cRe) = some false := kit_of clRe tyRe uSuRe fun z => dSuRe (Value.ref.inj z)
  have kHaRe : PySem.W.kitOne K (.ref cHa) (.ref cRe) = some false := kit_of clRe tyRe uHaRe fun z => dHaRe (Value.ref.inj z)
  have kReRe : PySem.W.kitOne K (.ref cRe) (.ref cRe) = some true := kit_self
  have kLaSu : PySem.W.kitOne K (.ref cLa) (.ref cSu) = some false := kit_of clSu tySu uLaSu fun z => dLaSu (Value.ref.inj z)
  have kMoSu : PySem.W.kitOne K (.ref cMo) (.ref cSu) = some false := kit_of clSu tySu uMoSu fun z => dMoSu (Value.ref.inj z)
  have kTeSu : PySem.W.kitOne K (.ref cTe) (.ref cSu) = some false := kit_of clSu tySu uTeSu fun z => dTeSu (Value.ref.inj z)
  have kJuSu : PySem.W.kitOne K (.ref cJu) (.ref cSu) = some false := kit_of clSu tySu uJuSu fun z => dJuSu (Value.ref.inj z)
  have kSuSu : PySem.W.kitOne K (.ref cSu) (.ref cSu) = some true := kit_self
  have kHaSu : PySem.W.kitOne K (.ref cHa) (.ref cSu) = some false := kit_of clSu tySu uHaSu fun z => (Ne.symm dSuHa) (Value.ref.inj z)
  have kReSu : PySem.W.kitOne K (.ref cRe) (.ref cSu) = some false := kit_of clSu tySu uReSu fun z => (Ne.symm dSuRe) (Value.ref.inj z)
  have kLaHa : PySem.W.kitOne K (.ref cLa) (.ref cHa) = some false := kit_of clHa tyHa uLaHa fun z => dLaHa (Value.ref.inj z)
  have kMoHa : PySem.W.kitOne K (.ref cMo) (.ref cHa) = some false := kit_of clHa tyHa uMoHa fun z => dMoHa (Value.ref.inj z)
  have kTeHa : PySem.W.kitOne K (.ref cTe) (.ref cHa) = some false := kit_of clHa tyHa uTeHa fun z => dTeHa (Value.ref.inj z)
  have kJuHa : PySem.W.kitOne K (.ref cJu) (.ref cHa) = some false := kit_of clHa tyHa uJuHa fun z => dJuHa (Value.ref.inj z)
  have kSuHa : PySem.W.kitOne K (.ref cSu) (.ref cHa) = some false := kit_of clHa tyHa uSuHa fun z => dSuHa (Value.ref.inj z)
  have kHaHa : PySem.W.kitOne K (.ref cHa) (.ref cHa) = some true := kit_self
  have kReHa : PySem.W.kitOne K (.ref cRe) (.ref cHa) = some false := kit_of clHa tyHa uReHa fun z => (Ne.symm dHaRe) (Value.ref.inj z)
  have kN : PySem.W.kitOne K (.type "NoneType") (.ref cRe) = some false := kit_of clRe tyRe uN fun z => by cases z
  have ILa : ∀ C ∈ [cLa, cMo, cTe, cJu, cSu, cHa, cRe], PySem.W.kitOne K (.ref C) (.ref cLa) = some (decide (C = cLa)) := fun C hC => by
    simp only [List.mem_cons, List.not_mem_nil, or_false] at hC
    rcases hC with rfl | rfl | rfl | rfl | rfl | rfl | rfl
    · rw [kLaLa, decide_eq_true rfl]
    · rw [kMoLa, decide_eq_false (Ne.symm dLaMo)]
    · rw [kTeLa, decide_eq_false (Ne.symm dLaTe)]
    · rw [kJuLa, decide_eq_false (Ne.symm dLaJu)]
    · rw [kSuLa, decide_eq_false (Ne.symm dLaSu)]
    · rw [kHaLa, decide_eq_false (Ne.symm dLaHa)]
    · rw [kReLa, decide_eq_false (Ne.symm dLaRe)]
  have IJu : ∀ C ∈ [cLa, cMo, cTe, cJu, cSu, cHa, cRe], PySem.W.kitOne K (.ref C) (.ref cJu) = some (decide (C = cJu)) := fun C hC => by
    simp only [List.mem_cons, List.not_mem_nil, or_false] at hC
    rcases hC with rfl | rfl | rfl | rfl | rfl | rfl | rfl
    · rw [kLaJu, decide_eq_false dLaJu]
    · rw [kMoJu, decide_eq_false dMoJu]
    · rw [kTeJu, decide_eq_false dTeJu]
    · rw [kJuJu, decide_eq_true rfl]
    · rw [kSuJu, decide_eq_false (Ne.symm dJuSu)]
    · rw [kHaJu, decide_eq_false (Ne.symm dJuHa)]
    · rw [kReJu, decide_eq_false (Ne.symm dJuRe)]
  have IRe : ∀ C ∈ [cLa, cMo, cTe, cJu, cSu, cHa, cRe], PySem.W.kitOne K (.ref C) (.ref cRe) = some (decide (C = cRe)) := fun C hC => by
    simp only [List.mem_cons, List.not_mem_nil, or_false] at hC
    rcases hC with rfl | rfl | rfl | rfl | rfl | rfl | rfl
    · rw [kLaRe, decide_eq_false dLaRe]
    · rw [kMoRe, decide_eq_false dMoRe]
    · rw [kTeRe, decide_eq_false dTeRe]
    · rw [kJuRe, decide_eq_false dJuRe]
    · rw [kSuRe, decide_eq_false dSuRe]
    · rw [kHaRe, decide_eq_false dHaRe]
    · rw [kReRe, decide_eq_true rfl]
  have ISu : ∀ C ∈ [cLa, cMo, cTe, cJu, cSu, cHa, cRe], PySem.W.kitOne K (.ref C) (.ref cSu) = some (decide (C = cSu)) := fun C hC => by
    simp only [List.mem_cons, List.not_mem_nil, or_false] at hC
    rcases hC with rfl | rfl | rfl | rfl | rfl | rfl | rfl
    · rw [kLaSu, decide_eq_false dLaSu]
    · rw [kMoSu, decide_eq_false dMoSu]
    · rw [kTeSu, decide_eq_false dTeSu]
    · rw [kJuSu, decide_eq_false dJuSu]
    · rw [kSuSu, decide_eq_true rfl]
    · rw [kHaSu, decide_eq_false (Ne.symm dSuHa)]
    · rw [kReSu, decide_eq_false (Ne.symm dSuRe)]
  have IHa : ∀ C ∈ [cLa, cMo, cTe, cJu, cSu, cHa, cRe], PySem.W.kitOne K (.ref C) (.ref cHa) = some (decide (C = cHa)) := fun C hC => by
    simp only [List.mem_cons, List.not_mem_nil, or_false] at hC
    rcases hC with rfl | rfl | rfl | rfl | rfl | rfl | rfl
    · rw [kLaHa, decide_eq_false dLaHa]
    · rw [kMoHa, decide_eq_false dMoHa]
    · rw [kTeHa, decide_eq_false dTeHa]
    · rw [kJuHa, decide_eq_false dJuHa]
    · rw [kSuHa, decide_eq_false dSuHa]
    · rw [kHaHa, decide_eq_true rfl]
    · rw [kReHa, decide_eq_false (Ne.symm dHaRe)]
  have T : Isi K mg c :=
    { isn := PySem.W.mg_none_of X G zisn
      len := PySem.W.mg_none_of X G zlen
      lst := PySem.W.mg_none_of X G zlst
      str := PySem.W.mg_none_of X G zstr
      rng := PySem.W.mg_none_of X G zrng
      enu := PySem.W.mg_none_of X G zenu
      zip := PySem.W.mg_none_of X G zzip
      min := PySem.W.mg_none_of X G zmin
      gl := PySem.W.mg_of X G aLa
      gj := PySem.W.mg_of X G aJu
      gr := PySem.W.mg_of X G aRe
      gs := PySem.W.mg_of X G aSu
      gh := PySem.W.mg_of X G aHa
      tl := TLa
      tm := TMo
      tt := TTe
      tj := TJu
      ts := TSu
      th := THa
      tr := TRe
      il := ILa
      ij := IJu
      ir := IRe
      is_ := ISu
      ih := IHa
      nr := kN
      nd := nd }
  have N : NA K c :=
    { l_mark := nLa_mark
      l_label := nLa_label
      m_mark := nMo_mark
      m_goal := nMo_goal
      m_atom := nMo_atom
      t_mark := nTe_mark
      t_atom := nTe_atom
      j_mark := nJu_mark
      j_label := nJu_label
      s_mark := nSu_mark
      s_callee := nSu_callee
      s_atoms := nSu_atoms
      s_arms := nSu_arms
      h_mark := nHa_mark
      h_callee := nHa_callee
      h_atoms := nHa_atoms
      h_ways := nHa_ways
      r_mark := nRe_mark
      r_way := nRe_way
      r_atoms := nRe_atoms
      p_name := nPi_name
      p_params := nPi_params
      p_ways := nPi_ways
      p_steps := nPi_steps
      c_pieces := nCo_pieces
      pcl := CPi
      ccl := CCo }
  have FILa := fun_mk (st := sLabelI) lILa ccILa kpILa
  have BILa := FILa.binds (ps := ["self", "mark", "label"]) fun _ _ _ _ _ _ us hl => match us, hl with | [_, _, _], _ => rfl
  have FIMo := fun_mk (st := sMoveI) lIMo ccIMo kpIMo
  have BIMo := FIMo.binds (ps := ["self", "mark", "goal", "atom"]) fun _ _ _ _ _ _ us hl => match us, hl with | [_, _, _, _], _ => rfl
  have FITe := fun_mk (st := sTellI) lITe ccITe kpITe
  have BITe := FITe.binds (ps := ["self", "mark", "atom"]) fun _ _ _ _ _ _ us hl => match us, hl with | [_, _, _], _ => rfl
  have FIJu := fun_mk (st := sJumpI) lIJu ccIJu kpIJu
  have BIJu := FIJu.binds (ps := ["self", "mark", "label"]) fun _ _ _ _ _ _ us hl => match us, hl with | [_, _, _], _ => rfl
  have FISu := fun_mk (st := sSummonI) lISu ccISu kpISu
  have BISu := FISu.binds (ps := ["self", "mark", "callee", "atoms", "arms"]) fun _ _ _ _ _ _ us hl => match us, hl with | [_, _, _, _, _], _ => rfl
  have FIHa := fun_mk (st := sHandonI) lIHa ccIHa kpIHa
  have BIHa := FIHa.binds (ps := ["self", "mark", "callee", "atoms", "ways"]) fun _ _ _ _ _ _ us hl => match us, hl with | [_, _, _, _, _], _ => rfl
  have FIRe := fun_mk (st := sReturnI) lIRe ccIRe kpIRe
  have BIRe := FIRe.binds (ps := ["self", "mark", "way", "atoms"]) fun _ _ _ _ _ _ us hl => match us, hl with | [_, _, _, _], _ => rfl
  have FIPi := fun_mk (st := sPieceI) lIPi ccIPi kpIPi
  have BIPi := FIPi.binds (ps := ["self", "name", "params", "ways", "steps"]) fun _ _ _ _ _ _ us hl => match us, hl with | [_, _, _, _, _], _ => rfl
  have FICo := fun_mk (st := sCodeI) lICo ccICo kpICo
  have BICo := FICo.binds (ps := ["self", "pieces"]) fun _ _ _ _ _ _ us hl => match us, hl with | [_, _], _ => rfl
  have FISt := fun_mk (st := sStepI) lISt ccISt kpISt
  have BISt := FISt.binds (ps := ["self", "mark"]) fun _ _ _ _ _ _ us hl => match us, hl with | [_, _], _ => rfl
  have FWLa := fun_mk (st := sLblW) lWLa ccWLa kpWLa
  have BWLa := FWLa.binds (ps := ["self"]) fun _ _ _ _ _ _ us hl => match us, hl with | [_], _ => rfl
  have FWMo := fun_mk (st := sMovW) lWMo ccWMo kpWMo
  have BWMo := FWMo.binds (ps := ["self"]) fun _ _ _ _ _ _ us hl => match us, hl with | [_], _ => rfl
  have FWTe := fun_mk (st := sTelW) lWTe ccWTe kpWTe
  have BWTe := FWTe.binds (ps := ["self"]) fun _ _ _ _ _ _ us hl => match us, hl with | [_], _ => rfl
  have FWJu := fun_mk (st := sJmpW) lWJu ccWJu kpWJu
  have BWJu := FWJu.binds (ps := ["self"]) fun _ _ _ _ _ _ us hl => match us, hl with | [_], _ => rfl
  have FWRe := fun_mk (st := sRetW) lWRe ccWRe kpWRe
  have BWRe := FWRe.binds (ps := ["self"]) fun _ _ _ _ _ _ us hl => match us, hl with | [_], _ => rfl
  have FWSu := fun_mk (st := sSumW) lWSu ccWSu kpWSu
  have BWSu := FWSu.binds (ps := ["self"]) fun _ _ _ _ _ _ us hl => match us, hl with | [_], _ => rfl
  have FLJu := fun_mk (st := sJmpL) lLJu ccLJu kpLJu
  have BLJu := FLJu.binds (ps := ["self"]) fun _ _ _ _ _ _ us hl => match us, hl with | [_], _ => rfl
  have FLSt := fun_mk (st := sStpL) lLSt ccLSt kpLSt
  have BLSt := FLSt.binds (ps := ["self"]) fun _ _ _ _ _ _ us hl => match us, hl with | [_], _ => rfl
  have FDA := fun_mk (st := sSpots) lDA ccDA kpDA
  have BDA := FDA.binds (ps := ["steps"]) fun _ _ _ _ _ _ us hl => match us, hl with | [_], _ => rfl
  have FDB := fun_mk (st := sOver) lDB ccDB kpDB
  have BDB := FDB.binds (ps := ["steps", "spot"]) fun _ _ _ _ _ _ us hl => match us, hl with | [_, _], _ => rfl
  have FDC := fun_mk (st := sLed) lDC ccDC kpDC
  have BDC := FDC.binds (ps := ["steps", "spots", "label"]) fun _ _ _ _ _ _ us hl => match us, hl with | [_, _, _], _ => rfl
  have FDD := fun_mk (st := sSWay) lDD ccDD kpDD
  have BDD := FDD.binds (ps := ["steps", "spots", "arm"]) fun _ _ _ _ _ _ us hl => match us, hl with | [_, _, _], _ => rfl
  have FDE := fun_mk (st := sStraight) lDE ccDE kpDE
  have BDE := FDE.binds (ps := ["piece", "arm"]) fun _ _ _ _ _ _ us hl => match us, hl with | [_, _], _ => rfl
  have FDF := fun_mk (st := sHStep) lDF ccDF kpDF
  have BDF := FDF.binds (ps := ["steps", "spots", "step"]) fun _ _ _ _ _ _ us hl => match us, hl with | [_, _, _], _ => rfl
  have FDG := fun_mk (st := sHPiece) lDG ccDG kpDG
  have BDG := FDG.binds (ps := ["piece"]) fun _ _ _ _ _ _ us hl => match us, hl with | [_], _ => rfl
  have FDH := fun_mk (st := sHanded) lDH ccDH kpDH
  have BDH := FDH.binds (ps := ["code"]) fun _ _ _ _ _ _ us hl => match us, hl with | [_], _ => rfl
  have FDJ := fun_mk (st := sPref) lDJ ccDJ kpDJ
  have BDJ := FDJ.binds (ps := ["prefix", "atom"]) fun _ _ _ _ _ _ us hl => match us, hl with | [_, _], _ => rfl
  have FDK := fun_mk (st := sAllP) lDK ccDK kpDK
  have BDK := FDK.binds (ps := ["prefix", "atoms"]) fun _ _ _ _ _ _ us hl => match us, hl with | [_, _], _ => rfl
  have FDM := fun_mk (st := sArmA) lDM ccDM kpDM
  have BDM := FDM.binds (ps := ["arm", "given", "prefix"]) fun _ _ _ _ _ _ us hl => match us, hl with | [_, _, _], _ => rfl
  have FDN := fun_mk (st := sCount) lDN ccDN kpDN
  have BDN := FDN.binds (ps := ["things"]) fun _ _ _ _ _ _ us hl => match us, hl with | [_], _ => rfl
  have FDO := fun_mk (st := sLineW) lDO ccDO kpDO
  have BDO := FDO.binds (ps := ["word", "mark", "told"]) fun _ _ _ _ _ _ us hl => match us, hl with | [_, _, _], _ => rfl
  have FDP := fun_mk (st := sCell) lDP ccDP kpDP
  have BDP := FDP.binds (ps := ["_law_script", "_law_k"]) fun _ _ _ _ _ _ us hl => match us, hl with | [_, _], _ => rfl
  have FDQ := fun_mk (st := sMix) lDQ ccDQ kpDQ
  have BDQ := FDQ.binds (ps := ["_law_cell", "_law_k"]) fun _ _ _ _ _ _ us hl => match us, hl with | [_, _], _ => rfl
  have FDR := fun_mk (st := sFig) lDR ccDR kpDR
  have BDR := FDR.binds (ps := ["_law_cell", "_law_k", "_law_many"]) fun _ _ _ _ _ _ us hl => match us, hl with | [_, _, _], _ => rfl
  have FDS := fun_mk (st := sAtoms) lDS ccDS kpDS
  have BDS := FDS.binds (ps := ["_law_number"]) fun _ _ _ _ _ _ us hl => match us, hl with | [_], _ => rfl
  have FDT := fun_mk (st := sRow) lDT ccDT kpDT
  have BDT := FDT.binds (ps := ["_law_cell", "_law_k", "_law_labels"]) fun _ _ _ _ _ _ us hl => match us, hl with | [_, _, _], _ => rfl
  have FDU := fun_mk (st := sArms) lDU ccDU kpDU
  have BDU := FDU.binds (ps := ["_law_cell", "_law_labels"]) fun _ _ _ _ _ _ us hl => match us, hl with | [_, _], _ => rfl
  have FDV := fun_mk (st := sPiece) lDV ccDV kpDV
  have BDV := FDV.binds (ps := ["_law_script", "_law_at"]) fun _ _ _ _ _ _ us hl => match us, hl with | [_, _], _ => rfl
  have FDW := fun_mk (st := sDue) lDW ccDW kpDW
  have BDW := FDW.binds (ps := ["_law_piece_here", "_law_label", "_law_goals"]) fun _ _ _ _ _ _ us hl => match us, hl with | [_, _, _], _ => rfl
  have FDX := fun_mk (st := sLHand) lDX ccDX kpDX
  have BDX := FDX.binds (ps := ["_law_piece_here", "_law_step", "_law_other"]) fun _ _ _ _ _ _ us hl => match us, hl with | [_, _, _], _ => rfl
  have FDL := fun_mk (st := sLaw) lDL ccDL kpDL
  refine ⟨PySem.W.fnOf "law" "law" (defArgs sLaw) (defBody sLaw) (defScope sLaw) .none kVDL dcDL pmDL anDL cdDL ctDL, fun s v => .of_eq rfl, fun base _ _ => ?_⟩
  have BI : BaseI l.prog w K mg base "Step" cSt ["self", "mark"] ["mark"] := ⟨⟨_, _, PySem.W.mg_of X G aSt, ⟨rdSt, gaSt, atSt, kpISt⟩, BISt, ok_stepI FISt⟩⟩
  have OJ : One l.prog w K mg base 1 "prefixed" ["prefix", "atom"] _ := ⟨⟨_, _, PySem.W.mg_of X G aDJ, FDJ.kp, BDJ, ok_pref FDJ⟩⟩
  have OK : One l.prog w K mg base 2 "all_prefixed" ["prefix", "atoms"] _ := ⟨⟨_, _, PySem.W.mg_of X G aDK, FDK.kp, BDK, ok_allp FDK OJ⟩⟩
  have OM : One l.prog w K mg base 3 "arm_again" ["arm", "given", "prefix"] _ := ⟨⟨_, _, PySem.W.mg_of X G aDM, FDM.kp, BDM, ok_arma FDM OK⟩⟩
  have MLa : CMk l.prog w K mg base 2 "Label" cLa ["self", "mark", "label"] _ := ⟨⟨_, _, PySem.W.mg_of X G aLa, ⟨mkLa, iLa, fnLa, kcLa⟩, BILa, ok_LabelI FILa BI CLa nLa_mark nLa_label⟩⟩
  have MMo : CMk l.prog w K mg base 2 "Move" cMo ["self", "mark", "goal", "atom"] _ := ⟨⟨_, _, PySem.W.mg_of X G aMo, ⟨mkMo, iMo, fnMo, kcMo⟩, BIMo, ok_MoveI FIMo BI CMo nMo_mark nMo_goal nMo_atom⟩⟩
  have MTe : CMk l.prog w K mg base 2 "Tell" cTe ["self", "mark", "atom"] _ := ⟨⟨_, _, PySem.W.mg_of X G aTe, ⟨mkTe, iTe, fnTe, kcTe⟩, BITe, ok_TellI FITe BI CTe nTe_mark nTe_atom⟩⟩
  have MJu : CMk l.prog w K mg base 2 "Jump" cJu ["self", "mark", "label"] _ := ⟨⟨_, _, PySem.W.mg_of X G aJu, ⟨mkJu, iJu, fnJu, kcJu⟩, BIJu, ok_JumpI FIJu BI CJu nJu_mark nJu_label⟩⟩
  have MSu : CMk l.prog w K mg base 4 "Summon" cSu ["self", "mark", "callee", "atoms", "arms"] _ := ⟨⟨_, _, PySem.W.mg_of X G aSu, ⟨mkSu, iSu, fnSu, kcSu⟩, BISu, ok_SummonI FISu BI T.lst CSu nSu_mark nSu_callee nSu_atoms nSu_arms OM⟩⟩
  have MHa : CMk l.prog w K mg base 2 "Handon" cHa ["self", "mark", "callee", "atoms", "ways"] _ := ⟨⟨_, _, PySem.W.mg_of X G aHa, ⟨mkHa, iHa, fnHa, kcHa⟩, BIHa, ok_HandonI FIHa BI T.lst CHa nHa_mark nHa_callee nHa_atoms nHa_ways⟩⟩
  have MRe : CMk l.prog w K mg base 2 "Return" cRe ["self", "mark", "way", "atoms"] _ := ⟨⟨_, _, PySem.W.mg_of X G aRe, ⟨mkRe, iRe, fnRe, kcRe⟩, BIRe, ok_ReturnI FIRe BI T.lst CRe nRe_mark nRe_way nRe_atoms⟩⟩
  have MPi : CMk l.prog w K mg base 1 "Piece" cPi ["self", "name", "params", "ways", "steps"] _ := ⟨⟨_, _, PySem.W.mg_of X G aPi, ⟨mkPi, iPi, fnPi, kcPi⟩, BIPi, ok_PieceI FIPi T.lst CPi nPi_name nPi_params nPi_ways nPi_steps⟩⟩
  have MCo : CMk l.prog w K mg base 1 "Code" cCo ["self", "pieces"] _ := ⟨⟨_, _, PySem.W.mg_of X G aCo, ⟨mkCo, iCo, fnCo, kcCo⟩, BICo, ok_CodeI FICo T.lst CCo nCo_pieces⟩⟩
  have OA : One l.prog w K mg base 1 "label_spots" ["steps"] _ := ⟨⟨_, _, PySem.W.mg_of X G aDA, FDA.kp, BDA, ok_spots FDA T N⟩⟩
  have OB : One l.prog w K mg base 1 "over_labels" ["steps", "spot"] _ := ⟨⟨_, _, PySem.W.mg_of X G aDB, FDB.kp, BDB, ok_over FDB T⟩⟩
  have OC : One l.prog w K mg base 2 "led" ["steps", "spots", "label"] _ := ⟨⟨_, _, PySem.W.mg_of X G aDC, FDC.kp, BDC, ok_led FDC T N OB⟩⟩
  have OD : One l.prog w K mg base 3 "straight_way" ["steps", "spots", "arm"] _ := ⟨⟨_, _, PySem.W.mg_of X G aDD, FDD.kp, BDD, ok_sway FDD T N OC⟩⟩
  have OE : One l.prog w K mg base 4 "straight" ["piece", "arm"] _ := ⟨⟨_, _, PySem.W.mg_of X G aDE, FDE.kp, BDE, ok_straight FDE T N OA OD⟩⟩
  have OF : One l.prog w K mg base 4 "handed_step" ["steps", "spots", "step"] _ := ⟨⟨_, _, PySem.W.mg_of X G aDF, FDF.kp, BDF, ok_hstep FDF T N OD MHa⟩⟩
  have OG : One l.prog w K mg base 5 "handed_piece" ["piece"] _ := ⟨⟨_, _, PySem.W.mg_of X G aDG, FDG.kp, BDG, ok_hpiece FDG N OA OF MPi⟩⟩
  have OH : One l.prog w K mg base 6 "handed" ["code"] _ := ⟨⟨_, _, PySem.W.mg_of X G aDH, FDH.kp, BDH, ok_handed FDH N OG MCo⟩⟩
  have ON : One l.prog w K mg base 1 "counted" ["things"] _ := ⟨⟨_, _, PySem.W.mg_of X G aDN, FDN.kp, BDN, ok_count FDN T⟩⟩
  have OO : One l.prog w K mg base 1 "line_words" ["word", "mark", "told"] _ := ⟨⟨_, _, PySem.W.mg_of X G aDO, FDO.kp, BDO, ok_linew FDO T⟩⟩
  have OP : One l.prog w K mg base 1 "_law_cell_at" ["_law_script", "_law_k"] _ := ⟨⟨_, _, PySem.W.mg_of X G aDP, FDP.kp, BDP, ok_cell FDP T⟩⟩
  have OQ : One l.prog w K mg base 1 "_law_mix" ["_law_cell", "_law_k"] _ := ⟨⟨_, _, PySem.W.mg_of X G aDQ, FDQ.kp, BDQ, ok_mix FDQ⟩⟩
  have OR : One l.prog w K mg base 2 "_law_figure" ["_law_cell", "_law_k", "_law_many"] _ := ⟨⟨_, _, PySem.W.mg_of X G aDR, FDR.kp, BDR, ok_fig FDR OQ⟩⟩
  have OS : One l.prog w K mg base 1 "_law_atoms" ["_law_number"] _ := ⟨⟨_, _, PySem.W.mg_of X G aDS, FDS.kp, BDS, ok_atoms FDS⟩⟩
  have OT : One l.prog w K mg base 4 "_law_row" ["_law_cell", "_law_k", "_law_labels"] _ := ⟨⟨_, _, PySem.W.mg_of X G aDT, FDT.kp, BDT, ok_row FDT T OR OS MJu MRe MTe MMo⟩⟩
  have OU : One l.prog w K mg base 3 "_law_arms" ["_law_cell", "_law_labels"] _ := ⟨⟨_, _, PySem.W.mg_of X G aDU, FDU.kp, BDU, ok_arms FDU T OR OS⟩⟩
  have OV : One l.prog w K mg base 6 "_law_piece" ["_law_script", "_law_at"] _ := ⟨⟨_, _, PySem.W.mg_of X G aDV, FDV.kp, BDV, ok_piece FDV T OP OR OT OU MLa MSu MPi⟩⟩
  have OW : One l.prog w K mg base 1 "_law_due" ["_law_piece_here", "_law_label", "_law_goals"] _ := ⟨⟨_, _, PySem.W.mg_of X G aDW, FDW.kp, BDW, ok_due FDW T N⟩⟩
  have MM : Mts l.prog w K mg base c :=
    { wl := ⟨⟨_, _, ⟨atWLa, fnWLa, kpWLa⟩, BWLa, ok_lblW FWLa⟩⟩
      wm := ⟨⟨_, _, ⟨atWMo, fnWMo, kpWMo⟩, BWMo, ok_movW FWMo T N OO⟩⟩
      wt := ⟨⟨_, _, ⟨atWTe, fnWTe, kpWTe⟩, BWTe, ok_telW FWTe T N OO⟩⟩
      wj := ⟨⟨_, _, ⟨atWJu, fnWJu, kpWJu⟩, BWJu, ok_jmpW FWJu T N OO⟩⟩
      wr := ⟨⟨_, _, ⟨atWRe, fnWRe, kpWRe⟩, BWRe, ok_retW FWRe T N OO ON⟩⟩
      ws := ⟨⟨_, _, ⟨atWSu, fnWSu, kpWSu⟩, BWSu, ok_sumW FWSu T N OO ON⟩⟩
      ll := ⟨⟨_, _, ⟨atLSLa, fnLSt, kpLSt⟩, BLSt, ok_stpL FLSt⟩⟩
      lm := ⟨⟨_, _, ⟨atLSMo, fnLSt, kpLSt⟩, BLSt, ok_stpL FLSt⟩⟩
      lt := ⟨⟨_, _, ⟨atLSTe, fnLSt, kpLSt⟩, BLSt, ok_stpL FLSt⟩⟩
      lj := ⟨⟨_, _, ⟨atLJu, fnLJu, kpLJu⟩, BLJu, ok_jmpL FLJu T N⟩⟩
      lr := ⟨⟨_, _, ⟨atLSRe, fnLSt, kpLSt⟩, BLSt, ok_stpL FLSt⟩⟩ }
  have OX : One l.prog w K mg base 3 "_law_handed" ["_law_piece_here", "_law_step", "_law_other"] _ := ⟨⟨_, _, PySem.W.mg_of X G aDX, FDX.kp, BDX, ok_lhand FDX T N MM OW⟩⟩
  exact ok_law FDL T N OV OE OS OW OH OX MCo
theorem walk {l : PySem.W.OpenLaw} {q : Program} {loose : List Str} {XP : (Str → Option Value) → Heap → Prop} {YP : World → Heap → Prop} {d : DefRec} {K : Params → PySem.W.Frag} (hn : l.most = some 63) (hdf : d.params.defaults = [])
    (hY : ∀ (w : World) (h : Heap), YP w h → (K w.params).In h)
    (F : ∀ (w : World) (mg : Str → Option Value) (fa : Addr) (h : Heap), (K w.params).In h → h.Ns mainGlobals mg → mg d.name = some (.ref fa) →
      ∃ fd : FuncData, (∀ (s : Shared) (u : Value), BindsTo s fd ⟨[u], []⟩ [("_law_script", u)]) ∧ ∀ base : Heap, (K w.params).In base → base.Ns mainGlobals mg → FnOk l.prog w (K w.params) mg base CX0 8 fa fd ["_law_script"] (spLaw (K w.params))) :
    PySem.W.WalkO q loose XP YP l.row.toRowW d [] (fun f vs => PySem.call f vs) :=
  L2.walk_of (n := 63) (k := 8) (x := "_law_script") (CX := fun _ => CX0) (sp := fun w => spLaw (K w.params)) hn (by decide) hdf ⟨rfl, by decide, by decide⟩ hY F (fun _ _ a ns _ _ hS => ⟨a, ns, rfl, hS, fun _ => rfl⟩) fun _ _ _ _ _ z => z
end K45
open PySem PySem.W PyProof.Rows
set_option maxRecDepth 100000 in
set_option maxHeartbeats 0 in
theorem PySem.Challenge.cw_exitweave_k45_pieces_by_hand_holds : PySem.Challenge.rw_exitweave_k45_pieces_by_hand.Holds := by
  w_on; o_law; k_head; (case hw => w_witness2)
  k_fill
  refine K45.walk (l := PySem.Challenge.rw_exitweave_k45_pieces_by_hand) rfl rfl (fun w h Y => PySem.W.kIn_of Y) ?F
  case F =>
    intro w mg fa h KX G hmg
    refine' K45.all_mk KX G hmg ?aLa ?pgLa ?hdLa ?poLa ?saLa ?nLa_mark ?nLa_label ?mkLa ?iLa ?fnLa ?kcLa ?lILa ?ccILa ?kpILa ?aMo ?pgMo ?hdMo ?poMo ?saMo ?nMo_mark ?nMo_goal ?nMo_atom ?mkMo ?iMo ?fnMo ?kcMo ?lIMo ?ccIMo ?kpIMo ?aTe ?pgTe ?hdTe ?poTe ?saTe ?nTe_mark ?nTe_atom ?mkTe ?iTe ?fnTe ?kcTe ?lITe ?ccITe ?kpITe ?aJu ?pgJu ?hdJu ?poJu ?saJu ?nJu_mark ?nJu_label ?mkJu ?iJu ?fnJu ?kcJu ?lIJu ?ccIJu ?kpIJu ?aSu ?pgSu ?hdSu ?poSu ?saSu ?nSu_mark ?nSu_callee ?nSu_atoms ?nSu_arms ?mkSu ?iSu ?fnSu ?kcSu ?lISu ?ccISu ?kpISu ?aHa ?pgHa ?hdHa ?poHa ?saHa ?nHa_mark ?nHa_callee ?nHa_atoms ?nHa_ways ?mkHa ?iHa ?fnHa ?kcHa ?lIHa ?ccIHa ?kpIHa ?aRe ?pgRe ?hdRe ?poRe ?saRe ?nRe_mark ?nRe_way ?nRe_atoms ?mkRe ?iRe ?fnRe ?kcRe ?lIRe ?ccIRe ?kpIRe ?aPi ?pgPi ?hdPi ?poPi ?saPi ?nPi_name ?nPi_params ?nPi_ways ?nPi_steps ?mkPi ?iPi ?fnPi ?kcPi ?lIPi ?ccIPi ?kpIPi ?aCo ?pgCo ?hdCo ?poCo ?saCo ?nCo_pieces ?mkCo ?iCo ?fnCo ?kcCo ?lICo ?ccICo ?kpICo ?caLa ?moLa ?caMo ?moMo ?caTe ?moTe ?caJu ?moJu ?caSu ?moSu ?caHa ?moHa ?caRe ?moRe ?hn ?ht ?clLa ?tyLa ?uMoLa ?uTeLa ?uJuLa ?uSuLa ?uHaLa ?uReLa ?clJu ?tyJu ?uLaJu ?uMoJu ?uTeJu ?uSuJu ?uHaJu ?uReJu ?clRe ?tyRe ?uLaRe ?uMoRe ?uTeRe ?uJuRe ?uSuRe ?uHaRe ?clSu ?tySu ?uLaSu ?uMoSu ?uTeSu ?uJuSu ?uHaSu ?uReSu ?clHa ?tyHa ?uLaHa ?uMoHa ?uTeHa ?uJuHa ?uSuHa ?uReHa ?uN ?nd ?aSt ?rdSt ?gaSt ?atSt ?lISt ?ccISt ?kpISt ?atWLa ?fnWLa ?lWLa ?ccWLa ?kpWLa ?atWMo ?fnWMo ?lWMo ?ccWMo ?kpWMo ?atWTe ?fnWTe ?lWTe ?ccWTe ?kpWTe ?atWJu ?fnWJu ?lWJu ?ccWJu ?kpWJu ?atWRe ?fnWRe ?lWRe ?ccWRe ?kpWRe ?atWSu ?fnWSu ?lWSu ?ccWSu ?kpWSu ?atLJu ?fnLJu ?lLJu ?ccLJu ?kpLJu ?atLSLa ?atLSMo ?atLSTe ?atLSRe ?fnLSt ?lLSt ?ccLSt ?kpLSt ?aDA ?lDA ?ccDA ?kpDA ?aDB ?lDB ?ccDB ?kpDB ?aDC ?lDC ?ccDC ?kpDC ?aDD ?lDD ?ccDD ?kpDD ?aDE ?lDE ?ccDE ?kpDE ?aDF ?lDF ?ccDF ?kpDF ?aDG ?lDG ?ccDG ?kpDG ?aDH ?lDH ?ccDH ?kpDH ?aDJ ?lDJ ?ccDJ ?kpDJ ?aDK ?lDK ?ccDK ?kpDK ?aDM ?lDM ?ccDM ?kpDM ?aDN ?lDN ?ccDN ?kpDN ?aDO ?lDO ?ccDO ?kpDO ?aDP ?lDP ?ccDP ?kpDP ?aDQ ?lDQ ?ccDQ ?kpDQ ?aDR ?lDR ?ccDR ?kpDR ?aDS ?lDS ?ccDS ?kpDS ?aDT ?lDT ?ccDT ?kpDT ?aDU ?lDU ?ccDU ?kpDU ?aDV ?lDV ?ccDV ?kpDV ?aDW ?lDW ?ccDW ?kpDW ?aDX ?lDX ?ccDX ?kpDX ?aDL ?lDL ?ccDL ?kpDL ?zisn ?zlen ?zlst ?zstr ?zrng ?zenu ?zzip ?zmin
    (case aLa => k_is)
    (case pgLa => k_is)
    (case hdLa => k_is)
    (case poLa => k_is)
    (case saLa => k_is)
    (case nLa_mark => k_is)
    (case nLa_label => k_is)
    (case mkLa => k_is)
    (case iLa => k_is)
    (case fnLa => k_is)
    (case kcLa => k_is)
    (case lILa => k_is)
    (case ccILa => k_is)
    (case kpILa => k_is)
    (case aMo => k_is)
    (case pgMo => k_is)
    (case hdMo => k_is)
    (case poMo => k_is)
    (case saMo => k_is)
    (case nMo_mark => k_is)
    (case nMo_goal => k_is)
    (case nMo_atom => k_is)
    (case mkMo => k_is)
    (case iMo => k_is)
    (case fnMo => k_is)
    (case kcMo => k_is)
    (case lIMo => k_is)
    (case ccIMo => k_is)
    (case kpIMo => k_is)
    (case aTe => k_is)
    (case pgTe => k_is)
    (case hdTe => k_is)
    (case poTe => k_is)
    (case saTe => k_is)
    (case nTe_mark => k_is)
    (case nTe_atom => k_is)
    (case mkTe => k_is)
    (case iTe => k_is)
    (case fnTe => k_is)
    (case kcTe => k_is)
    (case lITe => k_is)
    (case ccITe => k_is)
    (case kpITe => k_is)
    (case aJu => k_is)
    (case pgJu => k_is)
    (case hdJu => k_is)
    (case poJu => k_is)
    (case saJu => k_is)
    (case nJu_mark => k_is)
    (case nJu_label => k_is)
    (case mkJu => k_is)
    (case iJu => k_is)
    (case fnJu => k_is)
    (case kcJu => k_is)
    (case lIJu => k_is)
    (case ccIJu => k_is)
    (case kpIJu => k_is)
    (case aSu => k_is)
    (case pgSu => k_is)
    (case hdSu => k_is)
    (case poSu => k_is)
    (case saSu => k_is)
    (case nSu_mark => k_is)
    (case nSu_callee => k_is)
    (case nSu_atoms => k_is)
    (case nSu_arms => k_is)
    (case mkSu => k_is)
    (case iSu => k_is)
    (case fnSu => k_is)
    (case kcSu => k_is)
    (case lISu => k_is)
    (case ccISu => k_is)
    (case kpISu => k_is)
    (case aHa => k_is)
    (case pgHa => k_is)
    (case hdHa => k_is)
    (case poHa => k_is)
    (case saHa => k_is)
    (case nHa_mark => k_is)
    (case nHa_callee => k_is)
    (case nHa_atoms => k_is)
    (case nHa_ways => k_is)
    (case mkHa => k_is)
    (case iHa => k_is)
    (case fnHa => k_is)
    (case kcHa => k_is)
    (case lIHa => k_is)
    (case ccIHa => k_is)
    (case kpIHa => k_is)
    (case aRe => k_is)
    (case pgRe => k_is)
    (case hdRe => k_is)
    (case poRe => k_is)
    (case saRe => k_is)
    (case nRe_mark => k_is)
    (case nRe_way => k_is)
    (case nRe_atoms => k_is)
    (case mkRe => k_is)
    (case iRe => k_is)
    (case fnRe => k_is)
    (case kcRe => k_is)
    (case lIRe => k_is)
    (case ccIRe => k_is)
    (case kpIRe => k_is)
    (case aPi => k_is)
    (case pgPi => k_is)
    (case hdPi => k_is)
    (case poPi => k_is)
    (case saPi => k_is)
    (case nPi_name => k_is)
    (case nPi_params => k_is)
    (case nPi_ways => k_is)
    (case nPi_steps => k_is)
    (case mkPi => k_is)
    (case iPi => k_is)
    (case fnPi => k_is)
    (case kcPi => k_is)
    (case lIPi => k_is)
    (case ccIPi => k_is)
    (case kpIPi => k_is)
    (case aCo => k_is)
    (case pgCo => k_is)
    (case hdCo => k_is)
    (case poCo => k_is)
    (case saCo => k_is)
    (case nCo_pieces => k_is)
    (case mkCo => k_is)
    (case iCo => k_is)
    (case fnCo => k_is)
    (case kcCo => k_is)
    (case lICo => k_is)
    (case ccICo => k_is)
    (case kpICo => k_is)
    (case caLa => k_is)
    (case moLa => k_is)
    (case caMo => k_is)
    (case moMo => k_is)
    (case caTe => k_is)
    (case moTe => k_is)
    (case caJu => k_is)
    (case moJu => k_is)
    (case caSu => k_is)
    (case moSu => k_is)
    (case caHa => k_is)
    (case moHa => k_is)
    (case caRe => k_is)
    (case moRe => k_is)
    (case hn => k_is)
    (case ht => k_is)
    (case clLa => k_is)
    (case tyLa => k_is)
    (case uMoLa => k_is)
    (case uTeLa => k_is)
    (case uJuLa => k_is)
    (case uSuLa => k_is)
    (case uHaLa => k_is)
    (case uReLa => k_is)
    (case clJu => k_is)
    (case tyJu => k_is)
    (case uLaJu => k_is)
    (case uMoJu => k_is)
    (case uTeJu => k_is)
    (case uSuJu => k_is)
    (case uHaJu => k_is)
    (case uReJu => k_is)
    (case clRe => k_is)
    (case tyRe => k_is)
    (case uLaRe => k_is)
    (case uMoRe => k_is)
    (case uTeRe => k_is)
    (case uJuRe => k_is)
    (case uSuRe => k_is)
    (case uHaRe => k_is)
    (case clSu => k_is)
    (case tySu => k_is)
    (case uLaSu => k_is)
    (case uMoSu => k_is)
    (case uTeSu => k_is)
    (case uJuSu => k_is)
    (case uHaSu => k_is)
    (case uReSu => k_is)
    (case clHa => k_is)
    (case tyHa => k_is)
    (case uLaHa => k_is)
    (case uMoHa => k_is)
    (case uTeHa => k_is)
    (case uJuHa => k_is)
    (case uSuHa => k_is)
    (case uReHa => k_is)
    (case uN => k_is)
    (case nd => decide)
    (case aSt => k_is)
    (case rdSt => k_is)
    (case gaSt => k_is)
    (case atSt => k_is)
    (case lISt => k_is)
    (case ccISt => k_is)
    (case kpISt => k_is)
    (case atWLa => k_is)
    (case fnWLa => k_is)
    (case lWLa => k_is)
    (case ccWLa => k_is)
    (case kpWLa => k_is)
    (case atWMo => k_is)
    (case fnWMo => k_is)
    (case lWMo => k_is)
    (case ccWMo => k_is)
    (case kpWMo => k_is)
    (case atWTe => k_is)
    (case fnWTe => k_is)
    (case lWTe => k_is)
    (case ccWTe => k_is)
    (case kpWTe => k_is)
    (case atWJu => k_is)
    (case fnWJu => k_is)
    (case lWJu => k_is)
    (case ccWJu => k_is)
    (case kpWJu => k_is)
    (case atWRe => k_is)
    (case fnWRe => k_is)
    (case lWRe => k_is)
    (case ccWRe => k_is)
    (case kpWRe => k_is)
    (case atWSu => k_is)
    (case fnWSu => k_is)
    (case lWSu => k_is)
    (case ccWSu => k_is)
    (case kpWSu => k_is)
    (case atLJu => k_is)
    (case fnLJu => k_is)
    (case lLJu => k_is)
    (case ccLJu => k_is)
    (case kpLJu => k_is)
    (case atLSLa => k_is)
    (case atLSMo => k_is)
    (case atLSTe => k_is)
    (case atLSRe => k_is)
    (case fnLSt => k_is)
    (case lLSt => k_is)
    (case ccLSt => k_is)
    (case kpLSt => k_is)
    (case aDA => k_is)
    (case lDA => k_is)
    (case ccDA => k_is)
    (case kpDA => k_is)
    (case aDB => k_is)
    (case lDB => k_is)
    (case ccDB => k_is)
    (case kpDB => k_is)
    (case aDC => k_is)
    (case lDC => k_is)
    (case ccDC => k_is)
    (case kpDC => k_is)
    (case aDD => k_is)
    (case lDD => k_is)
    (case ccDD => k_is)
    (case kpDD => k_is)
    (case aDE => k_is)
    (case lDE => k_is)
    (case ccDE => k_is)
    (case kpDE => k_is)
    (case aDF => k_is)
    (case lDF => k_is)
    (case ccDF => k_is)
    (case kpDF => k_is)
    (case aDG => k_is)
    (case lDG => k_is)
    (case ccDG => k_is)
    (case kpDG => k_is)
    (case aDH => k_is)
    (case lDH => k_is)
    (case ccDH => k_is)
    (case kpDH => k_is)
    (case aDJ => k_is)
    (case lDJ => k_is)
    (case ccDJ => k_is)
    (case kpDJ => k_is)
    (case aDK => k_is)
    (case lDK => k_is)
    (case ccDK => k_is)
    (case kpDK => k_is)
    (case aDM => k_is)
    (case lDM => k_is)
    (case ccDM => k_is)
    (case kpDM => k_is)
    (case aDN => k_is)
    (case lDN => k_is)
    (case ccDN => k_is)
    (case kpDN => k_is)
    (case aDO => k_is)
    (case lDO => k_is)
    (case ccDO => k_is)
    (case kpDO => k_is)
    (case aDP => k_is)
    (case lDP => k_is)
    (case ccDP => k_is)
    (case kpDP => k_is)
    (case aDQ => k_is)
    (case lDQ => k_is)
    (case ccDQ => k_is)
    (case kpDQ => k_is)
    (case aDR => k_is)
    (case lDR => k_is)
    (case ccDR => k_is)
    (case kpDR => k_is)
    (case aDS => k_is)
    (case lDS => k_is)
    (case ccDS => k_is)
    (case kpDS => k_is)
    (case aDT => k_is)
    (case lDT => k_is)
    (case ccDT => k_is)
    (case kpDT => k_is)
    (case aDU => k_is)
    (case lDU => k_is)
    (case ccDU => k_is)
    (case kpDU => k_is)
    (case aDV => k_is)
    (case lDV => k_is)
    (case ccDV => k_is)
    (case kpDV => k_is)
    (case aDW => k_is)
    (case lDW => k_is)
    (case ccDW => k_is)
    (case kpDW => k_is)
    (case aDX => k_is)
    (case lDX => k_is)
    (case ccDX => k_is)
    (case kpDX => k_is)
    (case aDL => k_is)
    (case lDL => k_is)
    (case ccDL => k_is)
    (case kpDL => k_is)
    (case zisn => k_is)
    (case zlen => k_is)
    (case zlst => k_is)
    (case zstr => k_is)
    (case zrng => k_is)
    (case zenu => k_is)
    (case zzip => k_is)
    (case zmin => k_is)
