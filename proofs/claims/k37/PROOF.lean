import PyProof.Rows.All
import Wide.All
import OpenK.AllK
import Wide.FinOn
import PyProof.EqAt
import PyProof.EqKinds
import PyProof.TupleCall
import KE.BitLaws
import PyProof.TupleOfGen
import PyProof.GenQ
import PyProof.CodeObjX
import KE.KSortTupUse
import PyProof.ExcClass3
import PyProof.ExcBaseAll.ValueError
import OpenK.KOwn
import KE.KTryMore
import PyProof.NsDelKeeps
import PyProof.ExcAttrAll.ValueError
import PySem.SetOps
import PyProof.Rows.SortRev
import PySem.Challenge.RW_sightstone_k37_moves_put_together
set_option Elab.async false
set_option linter.all false
set_option maxRecDepth 100000

namespace L2
open PySem PySem.Spec PyProof.Rows


abbrev Key := Sum Int Str
def keyIs : Key → Value → Bool
  | .inl k, v => Value.isInt k v
  | .inr x, v => Value.isStrOf x v
def keyH (w : World) : Key → Int
  | .inl k => hashInt k
  | .inr x => hashStr w x
theorem keyIs_shape : ∀ {k : Key} {v : Value}, keyIs k v = true → (∃ i t, k = Sum.inl i ∧ v = Value.int i t) ∨ (∃ x t, k = Sum.inr x ∧ v = Value.str x t)
  | .inl i, v, h => by
    obtain ⟨t, e⟩ := Value.isInt_shape (k := i) (v := v) h
    exact .inl ⟨i, t, rfl, e⟩
  | .inr x, v, h => by
    obtain ⟨t, e⟩ := Value.isStrOf_shape (x := x) (v := v) h
    exact .inr ⟨x, t, rfl, e⟩
theorem key_ll (a b : Int) : decide ((Sum.inl a : Key) = Sum.inl b) = (a == b) := by
  by_cases e : a = b
  · subst e; simp
  · have h : ¬ (Sum.inl a : Key) = Sum.inl b := fun q => e (Sum.inl.inj q)
    rw [decide_eq_false h]
    exact (beq_eq_false_iff_ne.mpr e).symm
theorem key_rr (a b : Str) : decide ((Sum.inr a : Key) = Sum.inr b) = decide (a = b) := by
  by_cases e : a = b
  · subst e; simp
  · have h : ¬ (Sum.inr a : Key) = Sum.inr b := fun q => e (Sum.inr.inj q)
    rw [decide_eq_false h, decide_eq_false e]
theorem key_lr (a : Int) (b : Str) : decide ((Sum.inl a : Key) = Sum.inr b) = false := decide_eq_false (fun q => nomatch q)
theorem key_rl (a : Str) (b : Int) : decide ((Sum.inr a : Key) = Sum.inl b) = false := decide_eq_false (fun q => nomatch q)

def mixKind (prog : Program) (w : World) : PySem.KeyKind prog w Key where
  is := keyIs
  hash := keyH w
  inj := fun v a b ha hb => by
    rcases keyIs_shape ha with ⟨i, t, rfl, rfl⟩ | ⟨x, t, rfl, rfl⟩
    · rcases keyIs_shape hb with ⟨j, u, rfl, e⟩ | ⟨y, u, rfl, e⟩
      · injection e with e1 _; rw [e1]
      · exact nomatch e
    · rcases keyIs_shape hb with ⟨j, u, rfl, e⟩ | ⟨y, u, rfl, e⟩
      · exact nomatch e
      · injection e with e1 _; rw [e1]
  byValue := fun k v h => by
    rcases keyIs_shape h with ⟨i, t, rfl, rfl⟩ | ⟨x, t, rfl, rfl⟩ <;> rfl
  pyHash := fun hv h => by
    rcases keyIs_shape hv with ⟨i, t, rfl, rfl⟩ | ⟨x, t, rfl, rfl⟩
    · exact wpAny_pyHash_int h
    · exact wpAny_pyHash_str h
  eqBool := fun hu hv h => by
    rcases keyIs_shape hu with ⟨i, t, rfl, rfl⟩ | ⟨x, t, rfl, rfl⟩
    · rcases keyIs_shape hv with ⟨j, u, rfl, rfl⟩ | ⟨y, u, rfl, rfl⟩
      · rw [key_ll] at h; exact wpAny_eqBool_int h
      · rw [key_lr] at h; exact SeqAt.EqAt.int_str i t y u _ _ _ _ h
    · rcases keyIs_shape hv with ⟨j, u, rfl, rfl⟩ | ⟨y, u, rfl, rfl⟩
      · rw [key_rl] at h; exact SeqAt.EqAt.str_int x t j u _ _ _ _ h
      · rw [key_rr] at h; exact wpAny_eqBool_str h
  «strs» := fun k x t v h => by
    rcases keyIs_shape h with ⟨i, u, rfl, e⟩ | ⟨y, u, rfl, e⟩
    · exact nomatch e
    · injection e with e1 _
      subst e1
      cases v <;> rfl

end L2

namespace L2
open PySem PySem.Spec PyProof.Rows


inductive V where
  | non | bl (b : Bool) | int (i : Int) | str (x : Str) | byt (b : Array UInt8) | flt (b : UInt64) | ref (a : Addr) | ty (n : String)
  deriving DecidableEq

def RelV : V → Value → Prop
  | .non, u => u = Value.none
  | .bl b, u => u = Value.bool b
  | .int i, u => ∃ t, u = Value.int i t
  | .str x, u => ∃ t, u = Value.str x t
  | .byt b, u => ∃ t, u = Value.bytes b t
  | .flt b, u => ∃ t, u = Value.float b t
  | .ref a, u => u = Value.ref a
  | .ty n, u => u = Value.type n

abbrev Vals : List V → List Value → Prop := Paired RelV
theorem Vals.length {xs : List V} {us : List Value} (r : Vals xs us) : xs.length = us.length := Paired.length r
theorem Vals.get : ∀ {xs : List V} {us : List Value} {i : Nat} {x : V}, Vals xs us → xs[i]? = some x → ∃ u, us[i]? = some u ∧ RelV x u
  | _, _, _, _, .nil, e => by simp at e
  | _, _, 0, _, .cons r _, e => by simp at e; subst e; exact ⟨_, rfl, r⟩
  | _, _, i + 1, x, .cons _ t, e => by
    obtain ⟨u, h1, h2⟩ := Vals.get (i := i) (x := x) t (by simpa using e)
    exact ⟨u, by simpa using h1, h2⟩
theorem Vals.set {x : V} {u : Value} (r : RelV x u) : ∀ {xs : List V} {us : List Value} (i : Nat), Vals xs us → Vals (xs.set i x) (us.set i u)
  | _, _, _, .nil => .nil
  | _, _, 0, .cons _ t => .cons r t
  | _, _, i + 1, .cons q t => .cons q (Vals.set r i t)
theorem Vals.append : ∀ {xs ys : List V} {us ws : List Value}, Vals xs us → Vals ys ws → Vals (xs ++ ys) (us ++ ws)
  | _, _, _, _, .nil, s => s
  | _, _, _, _, .cons r t, s => .cons r (Vals.append t s)
theorem Vals.take : ∀ {xs : List V} {us : List Value} (n : Nat), Vals xs us → Vals (xs.take n) (us.take n)
  | _, _, 0, _ => .nil
  | _, _, _ + 1, .nil => .nil
  | _, _, n + 1, .cons r t => .cons r (Vals.take n t)
theorem Vals.drop : ∀ {xs : List V} {us : List Value} (n : Nat), Vals xs us → Vals (xs.drop n) (us.drop n)
  | _, _, 0, r => r
  | _, _, _ + 1, .nil => .nil
  | _, _, n + 1, .cons _ t => Vals.drop n t
def RelO : Option V → Option Value → Prop
  | some v, some u => RelV v u
  | none, none => True
  | _, _ => False
def KV {κ : Type} : List (κ × V) → List (κ × Value) → Prop := Paired fun (p : κ × V) (q : κ × Value) => p.1 = q.1 ∧ RelV p.2 q.2


def kV : Key → V
  | .inl i => .int i
  | .inr x => .str x


inductive HO where
  
  | lst (xs : List V)
  
  | tup (xs : List V)
  
  | dK (kvs : List (Key × V)) | dT (kvs : List (List Key × V))
  
  | set (S : Int → Bool) (n : Nat)
  
  | ins (C dx : Addr) (fs : List (Str × V))
  
  | own (x : Addr)
  
  | xd (fs : List (Str × V))
  
  | met (f x : Addr)
  
  | rng (lo hi : Int)
  
  | frz (o : Obj) (u : HO)
  
  | tbl (ps : Array Value)
  
  | ext (φ : Heap → Prop)

abbrev Hp := Addr → Option HO
def upd (H : Hp) (a : Addr) (o : HO) : Hp := fun b => if b = a then some o else H b
theorem upd_same {H : Hp} {a : Addr} {o : HO} : upd H a o a = some o := by unfold upd; rw [if_pos rfl]
theorem upd_ne {H : Hp} {a b : Addr} {o : HO} (h : b ≠ a) : upd H a o b = H b := by unfold upd; rw [if_neg h]
theorem ne_of {H : Hp} {a b : Addr} {o u : HO} (h : H a = some o) (h' : H b = some u) (d : o ≠ u) : a ≠ b := by
  intro e; subst e; rw [h] at h'; exact d (Option.some.inj h')
theorem ne_of_none {H : Hp} {a b : Addr} {o : HO} (h : H a = some o) (h' : H b = none) : a ≠ b := by
  intro e; subst e; rw [h] at h'; cases h'


def IsTupN (h : Heap) (a : Addr) (items : Array Value) : Prop := ∃ o, h.get? a = some o ∧ o.cls = .type "tuple" ∧ ∃ n, (o.data, o.dict) = (.seq items n, none)
theorem IsTupN.tup {h : Heap} {a : Addr} {items : Array Value} (x : IsTupN h a items) : IsTup h a items := let ⟨o, e, c, n, d⟩ := x; ⟨o, e, c, n, (Prod.mk.inj d).1⟩
theorem IsTupN.lt {h : Heap} {a : Addr} {items : Array Value} (x : IsTupN h a items) : a < h.objs.size := x.tup.lt
theorem IsTupN.new (h : Heap) (items : Array Value) : IsTupN (h.push { cls := .type "tuple", data := .seq items }) h.objs.size items := ⟨_, Heap.get?_push_size _ rfl, rfl, _, rfl⟩

section
variable (P : Program) (w : World)
def ObjOk (H : Hp) (h : Heap) (a : Addr) : HO → Prop
  | .lst xs => xs.length ≤ sizeLine ∧ ∃ (its : List Value) (n : Nat), Vals xs its ∧ h.get? a = some { cls := .type "list", data := .seq its.toArray n }
  | .tup xs => xs.length ≤ sizeLine ∧ ∃ its : List Value, Vals xs its ∧ IsTupN h a its.toArray
  | .dK kvs => kvs.length ≤ sizeLine ∧ (a == sysModules) = false ∧ ∃ vs, KV kvs vs ∧ h.DictOf (mixKind P w) a vs
  | .dT kvs => kvs.length ≤ sizeLine ∧ (a == sysModules) = false ∧ ∃ xs : List (List Key × Addr × Value),
      Paired (fun (p : List Key × V) (q : List Key × Addr × Value) => p.1 = q.1 ∧ H q.2.1 = some (.tup (p.1.map kV)) ∧ RelV p.2 q.2.2) kvs xs ∧
      ∃ o es ep, h.get? a = some o ∧ o.ExactDict ∧ o.data = .dict es ep ∧ es.toList = xs.map (entryOfKey (tupleKind (mixKind P w))) ∧ (xs.map (·.1)).Nodup
  | .set S n => h.SetOf (intKind P w) a S n
  | .ins C dx fs => H dx = some (.own a) ∧ fs.length ≤ 1000 ∧ dx ≠ a ∧ h.get? a = some (PySem.W.instObj C dx) ∧
      ∃ mA, h.Ns1 dx mA ∧ (∀ f, RelO (fs.lookup f) (mA f)) ∧ PySem.Within mA (fs.map (·.1))
  | .own _ => ∃ o, h.get? a = some o
  | .xd fs => ∃ mA, h.Ns1 a mA ∧ ∀ f, RelO (fs.lookup f) (mA f)
  | .rng lo hi => ∃ t u v, h.get? a = some { cls := .type "range", data := .fields #[.int lo t, .int hi u, .int 1 v] }
  | .frz o u => h.get? a = some o ∧ ObjOk H h a u
  | .tbl ps => h.get? a = some { cls := .none, data := .fields ps }
  | .met f x => h.get? a = some (PySem.W.methodObj (.ref f) (.ref x))
  | .ext φ => φ h ∧ (∃ o, h.get? a = some o) ∧ ∀ h1 h2 : Heap, φ h1 → (∀ o, h1.get? a = some o → h2.get? a = some o) → φ h2

def HOk (H : Hp) (h : Heap) : Prop := ∀ a o, H a = some o → ObjOk P w H h a o
end

section
variable {P : Program} {w : World} {H H' : Hp} {h h' : Heap} {a : Addr} {o : HO}
theorem ObjOk.lt (x : ObjOk P w H h a o) : a < h.objs.size := by
  cases o with
  | lst xs => obtain ⟨_, _, _, _, e⟩ := x; exact Heap.lt_size e
  | tup xs => obtain ⟨_, _, _, p⟩ := x; exact p.lt
  | dK kvs => obtain ⟨_, _, _, _, o, _, _, e, _⟩ := x; exact Heap.lt_size e
  | dT kvs => obtain ⟨_, _, _, _, o, _, _, e, _⟩ := x; exact Heap.lt_size e
  | set S n => obtain ⟨o, _, _, _, e, _⟩ := x; exact Heap.lt_size e
  | ins C dx fs => obtain ⟨_, _, _, e, _⟩ := x; exact Heap.lt_size e
  | own y => obtain ⟨_, e⟩ := x; exact Heap.lt_size e
  | xd fs => obtain ⟨_, ⟨_, _, _, e, _⟩, _⟩ := x; exact Heap.lt_size e
  | rng lo hi => obtain ⟨_, _, _, e⟩ := x; exact Heap.lt_size e
  | frz ob u => obtain ⟨e, _⟩ := x; exact Heap.lt_size e
  | tbl ps => exact Heap.lt_size (show h.get? a = some _ from x)
  | met f y => exact Heap.lt_size (show h.get? a = some _ from x)
  | ext φ => obtain ⟨_, ⟨_, e⟩, _⟩ := x; exact Heap.lt_size e
theorem Paired.mapP {α β : Type} {F G : α → β → Prop} : ∀ {l₁ : List α} {l₂ : List β}, Paired F l₁ l₂ → (∀ a b, F a b → G a b) → Paired G l₁ l₂
  | _, _, .nil, _ => .nil
  | _, _, .cons r t, f => .cons (f _ _ r) (Paired.mapP t f)
theorem ObjOk.stay (x : ObjOk P w H h a o) (k : ∀ b u, (b = a ∨ H b = some (.own a)) → h.get? b = some u → h'.get? b = some u)
    (ho : ∀ b, H b = some (.own a) → H' b = some (.own a)) (ht : ∀ b xs, H b = some (.tup xs) → H' b = some (.tup xs)) : ObjOk P w H' h' a o := by
  induction o with
  | lst xs => obtain ⟨z, its, n, r, e⟩ := x; exact ⟨z, its, n, r, k _ _ (.inl rfl) e⟩
  | tup xs => obtain ⟨z, its, r, ob, e, c⟩ := x; exact ⟨z, its, r, ob, k _ _ (.inl rfl) e, c⟩
  | dK kvs => obtain ⟨z, y, vs, r, ob, es, ep, e, c⟩ := x; exact ⟨z, y, vs, r, ob, es, ep, k _ _ (.inl rfl) e, c⟩
  | dT kvs =>
    obtain ⟨z, y, xs, r, ob, es, ep, e, c⟩ := x
    exact ⟨z, y, xs, Paired.mapP r fun p q z => ⟨z.1, ht _ _ z.2.1, z.2.2⟩, ob, es, ep, k _ _ (.inl rfl) e, c⟩
  | set S n => obtain ⟨ob, es, ep, t, e, c⟩ := x; exact ⟨ob, es, ep, t, k _ _ (.inl rfl) e, c⟩
  | ins C dx fs =>
    obtain ⟨d, z, ne, e, mA, ⟨od, es, ep, e2, c⟩, r⟩ := x
    exact ⟨ho _ d, z, ne, k _ _ (.inl rfl) e, mA, ⟨od, es, ep, k _ _ (.inr d) e2, c⟩, r⟩
  | own y => obtain ⟨ob, e⟩ := x; exact ⟨ob, k _ _ (.inl rfl) e⟩
  | xd fs => obtain ⟨mA, ⟨od, es, ep, e, c⟩, r⟩ := x; exact ⟨mA, ⟨od, es, ep, k _ _ (.inl rfl) e, c⟩, r⟩
  | rng lo hi => obtain ⟨t, u, v, e⟩ := x; exact ⟨t, u, v, k _ _ (.inl rfl) e⟩
  | frz ob u ih => obtain ⟨e, q⟩ := x; exact ⟨k _ _ (.inl rfl) e, ih q⟩
  | tbl ps =>
    have e : h.get? a = some { cls := .none, data := .fields ps } := x
    show h'.get? a = some { cls := .none, data := .fields ps }
    exact k a _ (.inl rfl) e
  | met f y =>
    have e : h.get? a = some (PySem.W.methodObj (.ref f) (.ref y)) := x
    show h'.get? a = some (PySem.W.methodObj (.ref f) (.ref y))
    exact k a _ (.inl rfl) e
  | ext φ => obtain ⟨p, ⟨o, e⟩, st⟩ := x; exact ⟨st _ _ p fun o q => k _ _ (.inl rfl) q, ⟨o, k _ _ (.inl rfl) e⟩, st⟩
theorem HOk.lt (x : HOk P w H h) (e : H a = some o) : a < h.objs.size := (x a o e).lt
theorem HOk.fresh (x : HOk P w H h) (e : h.objs.size ≤ a) : H a = none := by
  cases q : H a with
  | none => rfl
  | some u => exact absurd (Nat.lt_of_lt_of_le (x.lt q) e) (Nat.lt_irrefl _)

theorem HOk.kept (x : HOk P w H h) (k : ∀ b u, h.get? b = some u → h'.get? b = some u) : HOk P w H h' := fun a o e =>
  (x a o e).stay (fun b u _ q => k b u q) (fun _ q => q) fun _ _ q => q

theorem HOk.laid (x : HOk P w H h) (k : ∀ b u, h.get? b = some u → h'.get? b = some u) (hp : h.objs.size ≤ a) (new : ObjOk P w (upd H a o) h' a o) : HOk P w (upd H a o) h' := fun b u e => by
  have hn := x.fresh hp
  by_cases hb : b = a
  · subst hb; rw [upd_same] at e; cases e; exact new
  · rw [upd_ne hb] at e
    exact (x b u e).stay (fun c v _ q => k c v q) (fun c q => by rw [upd_ne (ne_of_none q hn)]; exact q) fun c xs q => by rw [upd_ne (ne_of_none q hn)]; exact q
end


def Rd (H : Hp) (a : Addr) (u : HO) : Prop := H a = some u ∨ ∃ o, H a = some (.frz o u)
theorem Rd.of {H : Hp} {a : Addr} {u : HO} (h : H a = some u) : Rd H a u := .inl h
theorem Rd.ok {P : Program} {w : World} {H : Hp} {h : Heap} {a : Addr} {u : HO} (r : Rd H a u) (x : HOk P w H h) : ObjOk P w H h a u := by
  rcases r with r | ⟨o, r⟩
  · exact x a u r
  · obtain ⟨_, q⟩ := x a _ r
    exact q

def Mut : Option HO → Prop
  | some (.lst _) => True
  | some (.dK _) => True
  | some (.dT _) => True
  | some (.set _ _) => True
  | some (.ins _ _ _) => True
  | some (.ext _) => True
  | _ => False
section
variable {P : Program} {w : World} {H : Hp} {h h' : Heap} {x e : Addr} {o' : HO}

theorem HOk.write (ok : HOk P w H h) (mu : Mut (H x)) (he : e = x ∨ H e = some (.own x)) (k : ∀ b u, b ≠ e → h.get? b = some u → h'.get? b = some u) (heo : ∃ u, h'.get? e = some u)
    (new : ObjOk P w (upd H x o') h' x o') : HOk P w (upd H x o') h' := fun b u q => by
  have nown : ∀ c y, H c = some (.own y) → c ≠ x := fun c y r z => by subst z; rw [r] at mu; exact mu
  have ntup : ∀ c xs, H c = some (.tup xs) → c ≠ x := fun c xs r z => by subst z; rw [r] at mu; exact mu
  by_cases hb : b = x
  · subst hb; rw [upd_same] at q; cases q; exact new
  · rw [upd_ne hb] at q
    by_cases hbe : b = e
    · have q' : H b = some (.own x) := by
        rcases he with z | z
        · exact absurd (hbe.trans z) hb
        · rw [hbe]; exact z
      rw [q] at q'; cases q'
      obtain ⟨v, hv⟩ := heo
      exact ⟨v, by rw [hbe]; exact hv⟩
    · refine (ok b u q).stay (fun c v hc r => k c v ?_ r) (fun c r => by rw [upd_ne (nown c b r)]; exact r) fun c xs r => by rw [upd_ne (ntup c xs r)]; exact r
      rcases hc with rfl | hc
      · exact hbe
      · rintro rfl
        rcases he with z | z
        · exact nown c b hc z
        · rw [hc] at z; cases z; exact hb rfl
end


structure Un (fs ex : List Addr) (H H' : Hp) (h h' : Heap) : Prop where
  keep : ∀ b o, h.get? b = some o → H b = none → b ∉ fs → b ∉ ex → h'.get? b = some o
  slot : ∀ b o, h.get? b = some o → H b = none → b ∈ fs → b ∉ ex → ∃ sl, h'.get? b = some { o with slots := sl }
  free : ∀ b o, h.get? b = some o → H b = none → b ∉ ex → H' b = none
  there : ∀ b o, h.get? b = some o → b ∉ ex → ∃ o', h'.get? b = some o'
  tups : ∀ b xs, H b = some (.tup xs) → H' b = some (.tup xs)
  frzs : ∀ b o u, H b = some (.frz o u) → H' b = some (.frz o u)
  tbls : ∀ b ps, H b = some (.tbl ps) → ∃ more, H' b = some (.tbl (ps ++ more))
section
variable {fs fs' ex ex' : List Addr} {H H1 H2 : Hp} {h h1 h2 h' : Heap} {a x e : Addr} {o : HO}
theorem Un.any (u : Un fs ex H H1 h h1) {b : Addr} {ob : Obj} (q : h.get? b = some ob) (n : H b = none) (hx : b ∉ ex) : ∃ sl, h1.get? b = some { ob with slots := sl } := by
  by_cases hb : b ∈ fs
  · exact u.slot b ob q n hb hx
  · exact ⟨ob.slots, u.keep b ob q n hb hx⟩
theorem Un.trans (a : Un fs ex H H1 h h1) (b : Un fs ex H1 H2 h1 h2) : Un fs ex H H2 h h2 where
  keep := fun c ob q n hc hx => b.keep c ob (a.keep c ob q n hc hx) (a.free c ob q n hx) hc hx
  slot := fun c ob q n hc hx => by
    obtain ⟨sl, e1⟩ := a.slot c ob q n hc hx
    obtain ⟨sl', e2⟩ := b.slot c _ e1 (a.free c ob q n hx) hc hx
    exact ⟨sl', e2⟩
  free := fun c ob q n hx => by
    obtain ⟨o', e1⟩ := a.there c ob q hx
    exact b.free c o' e1 (a.free c ob q n hx) hx
  there := fun c ob q hx => by
    obtain ⟨o', e1⟩ := a.there c ob q hx
    exact b.there c o' e1 hx
  tups := fun c xs q => b.tups c xs (a.tups c xs q)
  frzs := fun c ob xs q => b.frzs c ob xs (a.frzs c ob xs q)
  tbls := fun c ps q => by
    obtain ⟨m1, e1⟩ := a.tbls c ps q
    obtain ⟨m2, e2⟩ := b.tbls c _ e1
    exact ⟨m1 ++ m2, by rw [e2, Array.append_assoc]⟩
theorem Un.kept (k : ∀ b u, h.get? b = some u → h'.get? b = some u) : Un fs ex H H h h' :=
  ⟨fun b ob q _ _ _ => k b ob q, fun b ob q _ _ _ => ⟨ob.slots, k b ob q⟩, fun _ _ _ n _ => n, fun b ob q _ => ⟨ob, k b ob q⟩, fun _ _ q => q, fun _ _ _ q => q, fun _ ps q => ⟨#[], by rw [q]; simp⟩⟩
theorem Un.refl : Un fs ex H H h h := Un.kept fun _ _ q => q
theorem Un.laid (k : ∀ b u, h.get? b = some u → h'.get? b = some u) (hp : h.objs.size ≤ a) (hn : H a = none) : Un fs ex H (upd H a o) h h' where
  keep := fun b u q _ _ _ => k b u q
  slot := fun b u q _ _ _ => ⟨u.slots, k b u q⟩
  free := fun b u q n _ => by rw [upd_ne (Nat.ne_of_lt (Nat.lt_of_lt_of_le (Heap.lt_size q) hp))]; exact n
  there := fun b u q _ => ⟨u, k b u q⟩
  tups := fun b xs q => by rw [upd_ne (ne_of_none q hn)]; exact q
  frzs := fun b u xs q => by rw [upd_ne (ne_of_none q hn)]; exact q
  tbls := fun b ps q => ⟨#[], by rw [upd_ne (ne_of_none q hn), q]; simp⟩
theorem Un.write (mu : Mut (H x)) (he : e = x ∨ H e = some (.own x)) (k : ∀ b u, b ≠ e → h.get? b = some u → h'.get? b = some u) (heo : ∃ u, h'.get? e = some u) : Un fs ex H (upd H x o) h h' := by
  have hx : ∀ b, H b = none → b ≠ x := fun b n z => by subst z; rw [n] at mu; exact mu
  have hb : ∀ b, H b = none → b ≠ e := fun b n z => by
    subst z
    rcases he with r | r
    · exact hx b n r
    · rw [n] at r; cases r
  have hm : ∀ b u, H b = some u → ¬ Mut (some u) → b ≠ x := fun b u q nm z => by subst z; rw [q] at mu; exact nm mu
  refine ⟨fun b u q n _ _ => k b u (hb b n) q, fun b u q n _ _ => ⟨u.slots, k b u (hb b n) q⟩, fun b u q n _ => by rw [upd_ne (hx b n)]; exact n, fun b u q _ => ?_,
    fun b xs q => by rw [upd_ne (hm b _ q fun z => z)]; exact q, fun b u xs q => by rw [upd_ne (hm b _ q fun z => z)]; exact q, fun b ps q => ⟨#[], by rw [upd_ne (hm b _ q fun z => z), q]; simp⟩⟩
  by_cases hbe : b = e
  · subst hbe; exact heo
  · exact ⟨u, k b u hbe q⟩
theorem Un.mono (u : Un fs ex H H1 h h1) (hs : ∀ b ∈ fs, b ∈ fs') (hx : ∀ b ∈ ex, b ∈ ex') : Un fs' ex' H H1 h h1 :=
  ⟨fun b ob q n hb he => u.keep b ob q n (fun z => hb (hs b z)) fun z => he (hx b z), fun _ _ q n _ he => u.any q n fun z => he (hx _ z), fun b ob q n he => u.free b ob q n fun z => he (hx b z), fun b ob q he => u.there b ob q fun z => he (hx b z), u.tups, u.frzs, u.tbls⟩
end


def trk (h : Heap) (H : Hp) : List Addr := (List.range h.objs.size).filter fun a => (H a).isSome
def hidT (h : Heap) (H : Hp) : Heap := PySem.W.hideAll h (trk h H)
theorem hidT_size (h : Heap) (H : Hp) : (hidT h H).objs.size = h.objs.size := PySem.W.hideAll_size _ _
theorem hidT_get {h : Heap} {H : Hp} {b : Addr} {o : Obj} (e : h.get? b = some o) (n : H b = none) : (hidT h H).get? b = some o :=
  PySem.W.hideAll_get _ e fun hm => by
    have q : (H b).isSome = true := (List.mem_filter.mp hm).2
    rw [n] at q; simp at q
theorem of_hidT {h : Heap} {H : Hp} {b : Addr} {o : Obj} (e : (hidT h H).get? b = some o) : h.get? b = some o ∧ H b = none := by
  have e' : h.get? b = some o := PySem.W.of_hideAll (trk h H) e
  refine ⟨e', ?_⟩
  cases q : H b with
  | none => rfl
  | some x =>
    have hm : b ∈ trk h H := List.mem_filter.mpr ⟨List.mem_range.mpr (Heap.lt_size e'), by simp [q]⟩
    have z : (hidT h H).get? b = none := PySem.W.hideAll_none (trk h H) hm
    rw [z] at e; cases e


def allNews (g h : Heap) (L : Addr) : List (Addr × Obj) := (List.range h.objs.size).filterMap fun a => if a = L ∨ (g.get? a).isSome = true then none else (h.get? a).map fun o => (a, o)
def rest (g h : Heap) (L d : Addr) : List (Addr × Obj) := (allNews g h L).filter fun p => decide (p.1 ≠ d)
end L2

namespace L2
open PySem PySem.Spec PyProof.Rows


structure Mod (K : PySem.W.Frag) (mg : Str → Option Value) (base : Heap) : Prop where
  kin : K.In base
  glob : base.Ns mainGlobals mg
  blt : ∃ mb, base.Ns builtinsNs mb ∧ ∀ x : Str, x ≠ "__name__" → mb x = bootBuiltins x
  nolimit : base.NoLimit


structure Cx where
  prog : Program
  w : World
  K : PySem.W.Frag
  mg : Str → Option Value
  base : Heap
  A : Around
  N : List Str
  s_0 : Shared
  H_0 : Hp
  env : Env
  outer : List Env
  stack : List Env
  ex : List Addr
  fn : Str → Bool
  calm : Bool
  pn : List (Addr × Obj)
  xe : Value → Shared → Prop

def frs (l : List Env) : List Addr := l.filterMap (·.frame)
abbrev Cx.fs (X : Cx) : List Addr := frs X.outer

def Vis (sc : Scope) (x : Str) : Prop := sc.names.lookup x = some .local ∨ sc.names.lookup x = some .cell ∨ sc.names.lookup x = some .free
def Loc (sc : Scope) (x : Str) : Prop := sc.names.lookup x = some .local ∨ sc.names.lookup x = some .cell
def Look (env : Env) (h : Heap) (m : Str → Option Value) (x : Str) (u : Value) : Prop :=
  (env.kindOf x = some .local ∧ m x = some u) ∨ ((env.kindOf x = some .cell ∨ env.kindOf x = some .free) ∧ ∃ c, env.cells.lookup x = some c ∧ h.IsCell c (some u))

structure Cx.Ok (X : Cx) : Prop where
  mod : Mod X.K X.mg X.base
  kind : X.env.scope.kind = .function
  glob : X.env.globals = mainGlobals
  blt : X.env.builtins = builtinsNs
  above : X.s_0.heap.objs.size ≤ X.env.locals
  inj : ∀ x y c, X.env.cells.lookup x = some c → X.env.cells.lookup y = some c → x = y
  has : ∀ x, (X.env.kindOf x = some .cell ∨ X.env.kindOf x = some .free) → ∃ c, X.env.cells.lookup x = some c
  cab : ∀ x c, X.fn x = true → X.env.cells.lookup x = some c → X.s_0.heap.objs.size ≤ c
  hd : X.calm = true → X.A.handled = none
  frames : X.A.frames = some X.stack
  stk : X.stack = X.outer ∨ (X.stack = X.env :: X.outer ∧ X.env.frame = some X.env.locals)
  exf : ∀ b ∈ X.ex, b ≠ X.env.locals ∧ ∀ x c, X.env.cells.lookup x = some c → c ≠ b
  bs : ∀ b o, X.base.get? b = some o → X.s_0.heap.get? b = some o ∧ X.H_0 b = none
  bsz : X.base.objs.size ≤ X.s_0.heap.objs.size
  noex : ∀ b o, X.base.get? b = some o → b ∉ X.ex
  exfs : ∀ b ∈ X.ex, b ∉ X.fs
  funs : X.s_0.heap.FunFrames X.base X.outer
  frf : ∀ b ∈ X.fs, X.H_0 b = none

structure Inv (X : Cx) (pins : List (Addr × Obj)) (σ : List (Option V)) (H : Hp) (s : Shared) : Prop where
  ok : X.Ok
  os : s.os = X.s_0.os
  bare : AllBare s.gens
  base : Un X.fs X.ex X.H_0 H X.s_0.heap s.heap
  loc : ∃ m, s.heap.Ns X.env.locals m ∧ ∀ (i : Nat) (x : Str) (v : V), X.N[i]? = some x → σ[i]? = some (some v) → Vis X.env.scope x → ∃ u, RelV v u ∧ Look X.env s.heap m x u
  cell : ∀ x c, X.env.cells.lookup x = some c → ∃ v, s.heap.IsCell c v
  free : H X.env.locals = none
  freeC : ∀ x c, X.env.cells.lookup x = some c → H c = none
  pin : ∀ p ∈ X.pn ++ pins, s.heap.get? p.1 = some p.2 ∧ H p.1 = none ∧ p.1 ≠ X.env.locals ∧ p.1 ∉ X.fs ∧ ∀ v, p.2.data ≠ .cell v
  hok : HOk X.prog X.w H s.heap
  len : σ.length = X.N.length

section
variable {X : Cx} {pins : List (Addr × Obj)} {σ : List (Option V)} {H H' : Hp} {s : Shared} {h' : Heap}

theorem Cx.Ok.nofr (ok : X.Ok) {b : Addr} {o : Obj} (e : X.base.get? b = some o) : b ∉ X.fs := fun hb => by
  have := (ok.funs.mem hb).1
  rw [e] at this; cases this
theorem Inv.bs (I : Inv X pins σ H s) : ∀ b o, X.base.get? b = some o → s.heap.get? b = some o ∧ H b = none := fun b o e =>
  ⟨I.base.keep b o (I.ok.bs b o e).1 (I.ok.bs b o e).2 (I.ok.nofr e) (I.ok.noex b o e), I.base.free b o (I.ok.bs b o e).1 (I.ok.bs b o e).2 (I.ok.noex b o e)⟩
theorem Inv.bk (I : Inv X pins σ H s) : ∀ b o, X.base.get? b = some o → s.heap.get? b = some o := fun b o e => (I.bs b o e).1
theorem Inv.mod (I : Inv X pins σ H s) : Mod X.K X.mg X.base := I.ok.mod
theorem Inv.kIn (I : Inv X pins σ H s) : X.K.In s.heap := I.ok.mod.kin.keeps I.bk
theorem Inv.nolimit (I : Inv X pins σ H s) : s.heap.NoLimit := I.ok.mod.nolimit.keeps I.bk

theorem Inv.lt (I : Inv X pins σ H s) : X.env.locals < s.heap.objs.size := let ⟨_, hn, _⟩ := I.loc; hn.lt
theorem Inv.sz (I : Inv X pins σ H s) : X.s_0.heap.objs.size ≤ s.heap.objs.size := Nat.le_trans I.ok.above (Nat.le_of_lt I.lt)
theorem Inv.nofs (I : Inv X pins σ H s) {a : Addr} (h : s.heap.objs.size ≤ a) : a ∉ X.fs := fun hb => by
  obtain ⟨_, o, ho, _⟩ := I.ok.funs.mem hb
  exact absurd (Nat.lt_of_lt_of_le (Heap.lt_size ho) (Nat.le_trans I.sz h)) (Nat.lt_irrefl _)
theorem Inv.cne (I : Inv X pins σ H s) : ∀ x c, X.env.cells.lookup x = some c → c ≠ X.env.locals := fun x c e z => by
  obtain ⟨v, o, ho, hd⟩ := I.cell x c e
  obtain ⟨m, ⟨o', es, ep, ho', hd', _⟩, _⟩ := I.loc
  rw [z, ho'] at ho; cases ho; rw [hd'] at hd; cases hd
theorem Inv.funs (I : Inv X pins σ H s) : s.heap.FunFrames X.base X.outer := by
  have all : ∀ (l : List Env), (∀ b ∈ frs l, b ∈ X.fs) → X.s_0.heap.FunFrames X.base l → s.heap.FunFrames X.base l := by
    intro l
    induction l with
    | nil => intro _ _; trivial
    | cons env r ih =>
      intro hs hl
      obtain ⟨hk, ⟨L, o, hf, hn, ho, hd⟩, hr⟩ := hl
      have hL : L ∈ X.fs := hs L (by unfold frs; rw [List.filterMap_cons, hf]; exact List.mem_cons_self)
      obtain ⟨sl, e⟩ := I.base.slot L o ho (I.ok.frf L hL) hL fun z => I.ok.exfs L z hL
      exact ⟨hk, ⟨L, _, hf, hn, e, hd⟩, ih (fun b hb => hs b (by unfold frs; rw [List.filterMap_cons, hf]; exact List.mem_cons_of_mem _ hb)) hr⟩
  exact all X.outer (fun _ hb => hb) I.ok.funs


theorem Inv.stack (I : Inv X pins σ H s) : s.heap.FunFrames X.base X.stack := by
  rcases I.ok.stk with e | ⟨e, hf⟩
  · rw [e]; exact I.funs
  · rw [e]
    obtain ⟨m, hn, _⟩ := I.loc
    refine .cons (by rw [I.ok.kind]; decide) hf hn ?_ I.funs
    exact Heap.get?_none_of_le (Nat.le_trans I.ok.bsz I.ok.above)
theorem Inv.stkSub (I : Inv X pins σ H s) : ∀ b ∈ frs X.stack, b ∈ X.env.locals :: X.fs := fun b hb => by
  rcases I.ok.stk with e | ⟨e, hf⟩
  · rw [e] at hb; exact List.mem_cons_of_mem _ hb
  · rw [e] at hb
    unfold frs at hb
    rw [List.filterMap_cons, hf] at hb
    exact hb
theorem Inv.stkFree (I : Inv X pins σ H s) : ∀ b ∈ frs X.stack, H b = none := fun b hb => by
  rcases List.mem_cons.mp (I.stkSub b hb) with e | hb
  · rw [e]; exact I.free
  · obtain ⟨_, o, ho, _⟩ := I.ok.funs.mem hb
    exact I.base.free b o ho (I.ok.frf b hb) fun z => I.ok.exfs b z hb


theorem Inv.step {g' : Array GenState} {t' : Nat} {d' : Drawn} {ch : List Addr} (I : Inv X pins σ H s)
    (hch : ∀ b ∈ ch, (b ∈ X.ex ∨ X.s_0.heap.objs.size ≤ b) ∧ b ≠ X.env.locals ∧ (∀ x c, X.env.cells.lookup x = some c → c ≠ b) ∧ ∀ p ∈ X.pn ++ pins, p.1 ≠ b)
    (keep : ∀ b o, b ≠ X.env.locals → b ∉ X.fs → b ∉ ch → s.heap.get? b = some o → H b = none → h'.get? b = some o)
    (slot : ∀ b o, b ≠ X.env.locals → b ∈ X.fs → b ∉ ch → s.heap.get? b = some o → H b = none → ∃ sl, h'.get? b = some { o with slots := sl }) (free : ∀ b o, b ∉ ch → s.heap.get? b = some o → H b = none → H' b = none)
    (there : ∀ b o, b ∉ ch → s.heap.get? b = some o → ∃ o', h'.get? b = some o')
    (tups : ∀ b xs, H b = some (.tup xs) → H' b = some (.tup xs)) (frzs : ∀ b o u, H b = some (.frz o u) → H' b = some (.frz o u)) (tbls : ∀ b ps, H b = some (.tbl ps) → ∃ more, H' b = some (.tbl (ps ++ more)))
    (ns : ∀ m, s.heap.Ns X.env.locals m → h'.Ns X.env.locals m) (hok : HOk X.prog X.w H' h') (hg : AllBare g') :
    Inv X pins σ H' { s with heap := h', gens := g', drawn := d', toks := t' } := by
  have neL : ∀ b o, X.s_0.heap.get? b = some o → b ≠ X.env.locals := fun b o e => Nat.ne_of_lt (Nat.lt_of_lt_of_le (Heap.lt_size e) I.ok.above)
  have neC : ∀ b o, X.s_0.heap.get? b = some o → b ∉ X.ex → b ∉ ch := fun b o e hx hb => by
    rcases (hch b hb).1 with z | z
    · exact hx z
    · exact absurd (Nat.lt_of_lt_of_le (Heap.lt_size e) z) (Nat.lt_irrefl _)
  have cellK : ∀ x c, X.env.cells.lookup x = some c → ∀ v, s.heap.IsCell c v → h'.IsCell c v := fun x c e v ⟨o, ho, hd⟩ => by
    have nch : c ∉ ch := fun z => (hch c z).2.2.1 x c e rfl
    by_cases hc : c ∈ X.fs
    · obtain ⟨sl, q⟩ := slot c o (I.cne x c e) hc nch ho (I.freeC x c e)
      exact ⟨_, q, hd⟩
    · exact ⟨o, keep c o (I.cne x c e) hc nch ho (I.freeC x c e), hd⟩
  refine ⟨I.ok, I.os, hg, ⟨fun b o e n hb hx => ?_, fun b o e n hb hx => ?_, fun b o e n hx => ?_, fun b o e hx => ?_, fun b xs e => tups b xs (I.base.tups b xs e), fun b o xs e => frzs b o xs (I.base.frzs b o xs e), fun b ps e => ?_⟩, ?_, fun x c e => ?_, ?_, fun x c e => ?_, fun p hp => ?_, hok, I.len⟩
  · exact keep b o (neL b o e) hb (neC b o e hx) (I.base.keep b o e n hb hx) (I.base.free b o e n hx)
  · obtain ⟨sl, e1⟩ := I.base.slot b o e n hb hx
    obtain ⟨sl', e2⟩ := slot b _ (neL b o e) hb (neC b o e hx) e1 (I.base.free b o e n hx)
    exact ⟨sl', e2⟩
  · obtain ⟨o', e1⟩ := I.base.there b o e hx
    exact free b o' (neC b o e hx) e1 (I.base.free b o e n hx)
  · obtain ⟨o', e1⟩ := I.base.there b o e hx
    exact there b o' (neC b o e hx) e1
  · obtain ⟨m1, e1⟩ := I.base.tbls b ps e
    obtain ⟨m2, e2⟩ := tbls b _ e1
    exact ⟨m1 ++ m2, by rw [e2, Array.append_assoc]⟩
  · obtain ⟨m, hn, hl⟩ := I.loc
    refine ⟨m, ns m hn, fun i x v e1 e2 e3 => ?_⟩
    obtain ⟨u, r, l⟩ := hl i x v e1 e2 e3
    refine ⟨u, r, ?_⟩
    rcases l with l | ⟨k, c, e, z⟩
    · exact .inl l
    · exact .inr ⟨k, c, e, cellK x c e _ z⟩
  · obtain ⟨v, z⟩ := I.cell x c e
    exact ⟨v, cellK x c e v z⟩
  · obtain ⟨m, ⟨o, _, _, ho, _⟩, _⟩ := I.loc
    exact free _ o (fun z => (hch _ z).2.1 rfl) ho I.free
  · obtain ⟨v, o, ho, hd⟩ := I.cell x c e
    exact free c o (fun z => (hch c z).2.2.1 x c e rfl) ho (I.freeC x c e)
  · obtain ⟨e, n, ne, nf, d⟩ := I.pin p hp
    have nch : p.1 ∉ ch := fun z => (hch p.1 z).2.2.2 p hp rfl
    exact ⟨keep p.1 p.2 ne nf nch e n, free p.1 p.2 nch e n, ne, nf, d⟩

theorem Inv.un {t' : Nat} (I : Inv X pins σ H s) (u : Un X.fs [] H H' s.heap h') (hok : HOk X.prog X.w H' h') : Inv X pins σ H' { s with heap := h', toks := t' } := by
  obtain ⟨m, ⟨o, es, ep, ho, r⟩, _⟩ := id I.loc
  obtain ⟨sl, hL⟩ := u.any ho I.free (by simp)
  exact I.step (g' := s.gens) (d' := s.drawn) (ch := []) (fun _ z => nomatch z) (fun b o _ hb _ e n => u.keep b o e n hb (by simp)) (fun b o _ hb _ e n => u.slot b o e n hb (by simp)) (fun b o _ e n => u.free b o e n (by simp)) (fun b o _ e => u.there b o e (by simp)) u.tups u.frzs u.tbls (fun m' hm => by
    obtain ⟨o', es', ep', ho', r'⟩ := hm
    rw [ho] at ho'; cases ho'
    exact ⟨_, es', ep', hL, r'⟩) hok I.bare

theorem Inv.call {g' : Array GenState} {t' : Nat} {d' : Drawn} {ch : List Addr} (I : Inv X pins σ H s) (u : Un (frs X.stack) ch H H' s.heap h') (hok : HOk X.prog X.w H' h') (hg : AllBare g')
    (hch : ∀ b ∈ ch, (b ∈ X.ex ∨ X.s_0.heap.objs.size ≤ b) ∧ b ≠ X.env.locals ∧ (∀ x c, X.env.cells.lookup x = some c → c ≠ b) ∧ ∀ p ∈ X.pn ++ pins, p.1 ≠ b) :
    Inv X pins σ H' { s with heap := h', gens := g', drawn := d', toks := t' } := by
  obtain ⟨m, ⟨o, es, ep, ho, r⟩, _⟩ := id I.loc
  obtain ⟨sl, hL⟩ := u.any ho I.free fun z => (hch _ z).2.1 rfl
  exact I.step (ch := ch) hch (fun b o hL hb hc e n => u.keep b o e n (fun z => (List.mem_cons.mp (I.stkSub b z)).elim hL hb) hc) (fun b o _ _ hc e n => u.any e n hc) (fun b o hc e n => u.free b o e n hc) (fun b o hc e => u.there b o e hc) u.tups u.frzs u.tbls (fun m' hm => by
    obtain ⟨o', es', ep', ho', r'⟩ := hm
    rw [ho] at ho'; cases ho'
    exact ⟨_, es', ep', hL, r'⟩) hok hg

theorem Inv.turned {t' : Nat} {it : Addr} (I : Inv X pins σ H s) (k : ∀ b o, b ≠ it → s.heap.get? b = some o → h'.get? b = some o) (hn : H it = none) (hL : it ≠ X.env.locals)
    (h1 : it ∈ X.ex ∨ X.s_0.heap.objs.size ≤ it) (h2 : ∀ x c, X.env.cells.lookup x = some c → c ≠ it) (h3 : ∀ p ∈ X.pn ++ pins, p.1 ≠ it) : Inv X pins σ H { s with heap := h', toks := t' } := by
  have nit : ∀ b u, H b = some u → b ≠ it := fun b u e z => by rw [z, hn] at e; cases e
  refine I.step (g' := s.gens) (d' := s.drawn) (ch := [it]) (fun b hb => ?_) (fun b o _ _ hc e _ => k b o (fun z => hc (by simp [z])) e) (fun b o _ _ hc e _ => ⟨o.slots, k b o (fun z => hc (by simp [z])) e⟩) (fun _ _ _ _ n => n)
    (fun b o hc e => ⟨o, k b o (fun z => hc (by simp [z])) e⟩) (fun _ _ e => e) (fun _ _ _ e => e) (fun b ps e => ⟨#[], by rw [e]; simp⟩) (fun m hm => ?_) (fun b u e => ?_) I.bare
  · have e : b = it := by simpa using hb
    subst e
    exact ⟨h1, hL, h2, h3⟩
  · obtain ⟨o, es, ep, ho, r⟩ := hm
    exact ⟨o, es, ep, k _ o (Ne.symm hL) ho, r⟩
  · refine (I.hok b u e).stay (fun c v hc q => k c v ?_ q) (fun _ q => q) fun _ _ q => q
    rcases hc with z | z
    · rw [z]; exact nit b u e
    · exact nit c _ z
theorem Inv.tok (I : Inv X pins σ H s) (t : Nat) : Inv X pins σ H { s with toks := t } := I.un (h' := s.heap) (t' := t) Un.refl I.hok

theorem Inv.kept {t' : Nat} (I : Inv X pins σ H s) (k : ∀ b u, s.heap.get? b = some u → h'.get? b = some u) : Inv X pins σ H { s with heap := h', toks := t' } := I.un (Un.kept k) (I.hok.kept k)

theorem Inv.laid {a : Addr} {o : HO} {t' : Nat} (I : Inv X pins σ H s) (k : ∀ b u, s.heap.get? b = some u → h'.get? b = some u) (hp : s.heap.objs.size ≤ a) (new : ObjOk X.prog X.w (upd H a o) h' a o) :
    Inv X pins σ (upd H a o) { s with heap := h', toks := t' } := I.un (Un.laid k hp (I.hok.fresh hp)) (I.hok.laid k hp new)

theorem Inv.write {x e : Addr} {o : HO} {t' : Nat} (I : Inv X pins σ H s) (mu : Mut (H x)) (he : e = x ∨ H e = some (.own x)) (k : ∀ b u, b ≠ e → s.heap.get? b = some u → h'.get? b = some u) (heo : ∃ u, h'.get? e = some u)
    (new : ObjOk X.prog X.w (upd H x o) h' x o) : Inv X pins σ (upd H x o) { s with heap := h', toks := t' } := I.un (Un.write mu he k heo) (I.hok.write mu he k heo new)

theorem Inv.weak {σ' : List (Option V)} (I : Inv X pins σ H s) (hl : σ'.length = σ.length) (w : ∀ (i : Nat) v, σ'[i]? = some (some v) → σ[i]? = some (some v)) : Inv X pins σ' H s :=
  ⟨I.ok, I.os, I.bare, I.base, let ⟨m, hn, hl'⟩ := I.loc; ⟨m, hn, fun i x v e1 e2 e3 => hl' i x v e1 (w i v e2) e3⟩, I.cell, I.free, I.freeC, I.pin, I.hok, hl.trans I.len⟩
theorem Inv.pins_of {pins' : List (Addr × Obj)} (I : Inv X pins σ H s) (h : ∀ p ∈ pins', s.heap.get? p.1 = some p.2 ∧ H p.1 = none ∧ p.1 ≠ X.env.locals ∧ p.1 ∉ X.fs ∧ ∀ v, p.2.data ≠ .cell v) : Inv X pins' σ H s :=
  ⟨I.ok, I.os, I.bare, I.base, I.loc, I.cell, I.free, I.freeC, fun p hp => (List.mem_append.mp hp).elim (fun z => I.pin p (List.mem_append_left _ z)) (h p), I.hok, I.len⟩

theorem nodup_ix {N : List Str} (hN : N.Nodup) {i j : Nat} {x : Str} (a : N[i]? = some x) (b : N[j]? = some x) : i = j := by
  obtain ⟨h1, e1⟩ := List.getElem?_eq_some_iff.mp a
  obtain ⟨h2, e2⟩ := List.getElem?_eq_some_iff.mp b
  exact (List.getElem_inj hN).mp (e1.trans e2.symm)


theorem store_ok2 {M : Model} {A : Around} {E : Value → Shared → Prop} {i : Nat} {x : Str} {v : V} {u : Value} {Q : Unit → Shared → Prop} (I : Inv X pins σ H s) (hN : X.N.Nodup) (hi : X.N[i]? = some x) (hx : Loc X.env.scope x) (r : RelV v u)
    (h : ∀ s', Inv X pins (σ.set i (some v)) H s' → (∃ a, Heap.SameBut a s.heap s'.heap ∧ (a = X.env.locals ∨ X.env.cells.lookup x = some a)) → Q () s') (hf : X.fn x = true ∨ X.env.scope.names.lookup x = some .local := by first | exact .inl rfl | exact .inr rfl | assumption) : wpAny M A (storeName X.env x u) Q E s := by
  obtain ⟨m, hn, hl⟩ := id I.loc
  have hcls : (X.env.scope.kind == .class || (X.env.scope.kind == .module && X.env.locals != X.env.globals)) = false := by rw [I.ok.kind]; rfl
  have hiσ : i < σ.length := by rw [I.len]; exact (List.getElem?_eq_some_iff.mp hi).1
  have cne := I.cne
  have tracked : ∀ {a : Addr} {h' : Heap}, (∃ o, s.heap.get? a = some o ∧ H a = none) → Heap.SameBut a s.heap h' → HOk X.prog X.w H h' := fun {a h'} ha hs b ob e => by
    obtain ⟨_, _, hfree⟩ := ha
    refine (I.hok b ob e).stay (fun c w' hc q => (hs.2 c ?_).trans q) (fun _ q => q) fun _ _ q => q
    rintro rfl
    rcases hc with rfl | hc
    · rw [hfree] at e; cases e
    · rw [hfree] at hc; cases hc
  rcases hx with hk | hk
  · refine wpAny_storeName_local hk hn (fun h' hn' hs => ?_) hcls
    obtain ⟨oL, _, _, hoL, _⟩ := id hn
    refine h _ ⟨I.ok, I.os, I.bare, ⟨fun b o e n hb hx => ?_, fun b o e n hb hx => ?_, I.base.free, fun b o e hx => ?_, I.base.tups, I.base.frzs, I.base.tbls⟩, ⟨_, hn', fun j y v' e1 e2 e3 => ?_⟩, fun y c e => ?_, I.free, I.freeC, fun p hp => ?_, tracked ⟨oL, hoL, I.free⟩ hs, by simpa using I.len⟩ ⟨_, hs, .inl rfl⟩
    · exact (hs.2 b (Nat.ne_of_lt (Nat.lt_of_lt_of_le (Heap.lt_size e) I.ok.above))).trans (I.base.keep b o e n hb hx)
    · obtain ⟨sl, e1⟩ := I.base.slot b o e n hb hx
      exact ⟨sl, (hs.2 b (Nat.ne_of_lt (Nat.lt_of_lt_of_le (Heap.lt_size e) I.ok.above))).trans e1⟩
    · obtain ⟨o', e1⟩ := I.base.there b o e hx
      exact ⟨o', (hs.2 b (Nat.ne_of_lt (Nat.lt_of_lt_of_le (Heap.lt_size e) I.ok.above))).trans e1⟩
    · by_cases hj : j = i
      · subst hj
        rw [hi] at e1; cases e1
        rw [List.getElem?_set_self hiσ] at e2
        cases e2
        exact ⟨u, r, .inl ⟨hk, by simp⟩⟩
      · rw [List.getElem?_set_ne (Ne.symm hj)] at e2
        obtain ⟨u', r', q⟩ := hl j y v' e1 e2 e3
        refine ⟨u', r', ?_⟩
        rcases q with ⟨k, e⟩ | ⟨k, c, e, z⟩
        · refine .inl ⟨k, ?_⟩
          have : y ≠ x := fun e => hj (nodup_ix hN e1 (e ▸ hi))
          simp [this, e]
        · exact .inr ⟨k, c, e, z.sameBut hs (cne y c e)⟩
    · obtain ⟨w', z⟩ := I.cell y c e
      exact ⟨w', z.sameBut hs (cne y c e)⟩
    · obtain ⟨e, n, ne, nf, d⟩ := I.pin p hp
      exact ⟨(hs.2 p.1 ne).trans e, n, ne, nf, d⟩
  · have hfn : X.fn x = true := by
      rcases hf with z | z
      · exact z
      · rw [z] at hk; cases hk
    obtain ⟨c, hc⟩ := I.ok.has x (.inl hk)
    obtain ⟨w', z⟩ := I.cell x c hc
    refine wpAny_storeName_cell I.ok.kind hk hc z (fun h' hc' hs => ?_)
    obtain ⟨oc, hoc, hocd⟩ := id z
    refine h { s with heap := h' } ⟨I.ok, I.os, I.bare, ⟨fun b o e n hb hx => ?_, fun b o e n hb hx => ?_, I.base.free, fun b o e hx => ?_, I.base.tups, I.base.frzs, I.base.tbls⟩, ⟨m, hn.sameBut hs (Ne.symm (cne x c hc)), fun j y v' e1 e2 e3 => ?_⟩, fun y c' e => ?_, I.free, I.freeC, fun p hp => ?_, tracked ⟨oc, hoc, I.freeC x c hc⟩ hs, by simpa using I.len⟩ ⟨c, hs, .inr hc⟩
    · exact (hs.2 b (Nat.ne_of_lt (Nat.lt_of_lt_of_le (Heap.lt_size e) (I.ok.cab x c hfn hc)))).trans (I.base.keep b o e n hb hx)
    · obtain ⟨sl, e1⟩ := I.base.slot b o e n hb hx
      exact ⟨sl, (hs.2 b (Nat.ne_of_lt (Nat.lt_of_lt_of_le (Heap.lt_size e) (I.ok.cab x c hfn hc)))).trans e1⟩
    · obtain ⟨o', e1⟩ := I.base.there b o e hx
      exact ⟨o', (hs.2 b (Nat.ne_of_lt (Nat.lt_of_lt_of_le (Heap.lt_size e) (I.ok.cab x c hfn hc)))).trans e1⟩
    · by_cases hj : j = i
      · subst hj
        rw [hi] at e1; cases e1
        rw [List.getElem?_set_self hiσ] at e2
        cases e2
        exact ⟨u, r, .inr ⟨.inl hk, c, hc, hc'⟩⟩
      · rw [List.getElem?_set_ne (Ne.symm hj)] at e2
        obtain ⟨u', r', q⟩ := hl j y v' e1 e2 e3
        refine ⟨u', r', ?_⟩
        rcases q with q | ⟨k, c', e, z'⟩
        · exact .inl q
        · refine .inr ⟨k, c', e, z'.sameBut hs ?_⟩
          rintro rfl
          exact hj (nodup_ix hN e1 (I.ok.inj _ _ _ e hc ▸ hi))
    · by_cases hcc : c' = c
      · subst hcc; exact ⟨_, hc'⟩
      · obtain ⟨w2, z2⟩ := I.cell y c' e
        exact ⟨w2, z2.sameBut hs hcc⟩
    · obtain ⟨e, n, ne, nf, d⟩ := I.pin p hp
      refine ⟨(hs.2 p.1 ?_).trans e, n, ne, nf, d⟩
      intro q
      rw [q, hoc] at e
      have q' : oc = p.2 := Option.some.inj e
      exact d w' (by rw [← q']; exact hocd)
theorem store_ok {M : Model} {A : Around} {E : Value → Shared → Prop} {i : Nat} {x : Str} {v : V} {u : Value} {Q : Unit → Shared → Prop} (I : Inv X pins σ H s) (hN : X.N.Nodup) (hi : X.N[i]? = some x) (hx : Loc X.env.scope x) (r : RelV v u)
    (h : ∀ s', Inv X pins (σ.set i (some v)) H s' → Q () s') (hf : X.fn x = true ∨ X.env.scope.names.lookup x = some .local := by first | exact .inl rfl | exact .inr rfl | assumption) : wpAny M A (storeName X.env x u) Q E s :=
  store_ok2 I hN hi hx r (fun s' I' _ => h s' I') hf

theorem Inv.call' {s' : Shared} {ch : List Addr} (I : Inv X pins σ H s) (ho : s'.os = s.os) (u : Un (frs X.stack) ch H H' s.heap s'.heap) (hok : HOk X.prog X.w H' s'.heap) (hg : AllBare s'.gens)
    (hch : ∀ b ∈ ch, (b ∈ X.ex ∨ X.s_0.heap.objs.size ≤ b) ∧ b ≠ X.env.locals ∧ (∀ x c, X.env.cells.lookup x = some c → c ≠ b) ∧ ∀ p ∈ X.pn ++ pins, p.1 ≠ b) : Inv X pins σ H' s' := by
  obtain ⟨h', g', d', t', o'⟩ := s'
  have e : o' = s.os := ho
  subst e
  exact I.call (g' := g') (t' := t') (d' := d') u hok hg hch
end



abbrev XK := Value → Option Addr → Hp → Prop
abbrev St := List (Option V)
abbrev VK := V → Hp → Prop

abbrev TE := St → Hp → VK → Prop
abbrev TT := St → Hp → (Bool → Hp → Prop) → Prop
abbrev TA := St → Hp → (List V → Hp → Prop) → Prop

structure Ends where
  nx : St → Hp → Prop
  rt : VK
  bk : St → Hp → Prop := fun _ _ => False
  ct : St → Hp → Prop := fun _ _ => False
abbrev TS := Ends → St → Hp → Prop

def EP (X : Cx) (pins : List (Addr × Obj)) (σ : St) (Q : VK) (u : Value) (s' : Shared) : Prop := ∃ v H', Inv X pins σ H' s' ∧ RelV v u ∧ Q v H'
def TP (X : Cx) (pins : List (Addr × Obj)) (σ : St) (Q : Bool → Hp → Prop) (b : Bool) (s' : Shared) : Prop := ∃ H', Inv X pins σ H' s' ∧ Q b H'
def AP (X : Cx) (pins : List (Addr × Obj)) (σ : St) (Q : List V → Hp → Prop) (us : List Value) (s' : Shared) : Prop := ∃ vs H', Inv X pins σ H' s' ∧ Vals vs us ∧ Q vs H'
def SP (X : Cx) (pins : List (Addr × Obj)) (D : Ends) (f : Flow) (s' : Shared) : Prop :=
  match f with
  | .next => ∃ σ' H', Inv X pins σ' H' s' ∧ D.nx σ' H'
  | .brk => ∃ σ' H', Inv X pins σ' H' s' ∧ D.bk σ' H'
  | .cont => ∃ σ' H', Inv X pins σ' H' s' ∧ D.ct σ' H'
  | .ret u => ∃ v σ' H', Inv X pins σ' H' s' ∧ RelV v u ∧ D.rt v H'

def PE (X : Cx) (e : Expr) (t : TE) : Prop :=
  ∀ (pins : List (Addr × Obj)) (s : Shared) (σ : St) (H : Hp) (Q : VK), Inv X pins σ H s → t σ H Q → wpAny (model X.prog X.w) X.A (eval e X.env) (EP X pins σ Q) X.xe s
def PT (X : Cx) (e : Expr) (t : TT) : Prop :=
  ∀ (pins : List (Addr × Obj)) (s : Shared) (σ : St) (H : Hp) (Q : Bool → Hp → Prop), Inv X pins σ H s → t σ H Q → wpAny (model X.prog X.w) X.A (isTrue e X.env (eval e X.env)) (TP X pins σ Q) X.xe s

def PW (X : Cx) (e : Expr) (t : TT) : Prop :=
  ∀ (whole : Sem Value) (pins : List (Addr × Obj)) (s : Shared) (σ : St) (H : Hp) (Q : Bool → Hp → Prop), Inv X pins σ H s → t σ H Q → wpAny (model X.prog X.w) X.A (isTrue e X.env whole) (TP X pins σ Q) X.xe s
theorem PW.pt {X : Cx} {e : Expr} {t : TT} (h : PW X e t) : PT X e t := h _

def PA (X : Cx) (es : List Expr) (t : TA) : Prop :=
  ∀ (pos : Pos) (pins : List (Addr × Obj)) (s : Shared) (σ : St) (H : Hp) (Q : List V → Hp → Prop), Inv X pins σ H s → t σ H Q → wpAny (model X.prog X.w) X.A (spliced (backTo pos (starEach es X.env))) (AP X pins σ Q) X.xe s
def PS (X : Cx) (st : Stmt) (t : TS) : Prop :=
  ∀ (pins : List (Addr × Obj)) (s : Shared) (σ : St) (H : Hp) (D : Ends), Inv X pins σ H s → t D σ H → wpAny (model X.prog X.w) X.A (exec st X.env) (SP X pins D) X.xe s
def PSs (X : Cx) (st : List Stmt) (t : TS) : Prop :=
  ∀ (pins : List (Addr × Obj)) (s : Shared) (σ : St) (H : Hp) (D : Ends), Inv X pins σ H s → t D σ H → wpAny (model X.prog X.w) X.A (execs st X.env) (SP X pins D) X.xe s

theorem thn {α : Type} {t : Sem α} {Q Q' : α → Shared → Prop} {M : Model} {A : Around} {E : Value → Shared → Prop} {s : Shared} (h : wpAny M A t Q E s) (hQ : ∀ a s, Q a s → Q' a s) : wpAny M A t Q' E s := wpAny_mono h hQ fun _ _ x => x
end L2

namespace L2
open PySem PySem.Spec PyProof.Rows
section
variable {X : Cx}


def tVar (i : Nat) : TE := fun σ H Q => ∃ v, σ[i]? = some (some v) ∧ Q v H
def tC (v : V) : TE := fun _ H Q => Q v H
theorem pe_var {i : Nat} {x : Str} {pos : Pos} (hN : X.N[i]? = some x) (hv : Vis X.env.scope x) (hd : (x == ("__debug__" : Str)) = false := by decide) (hcd : (x == ("__classdict__" : Str)) = false := by decide) : PE X (.Name x pos) (tVar i) := by
  intro pins s σ H Q I h
  obtain ⟨v, e, h⟩ := h
  obtain ⟨m, hn, hl⟩ := I.loc
  obtain ⟨u, r, l⟩ := hl i x v hN e hv
  have fin : EP X pins σ Q u s := ⟨v, H, I, r, h⟩
  rcases l with ⟨hk, hm⟩ | ⟨hk, c, hc, hcell⟩
  · exact wpAny_Name (wpAny_loadName_local I.ok.kind hk hn hm fin) hd
  · rcases hk with hk | hk
    · exact wpAny_Name (wpAny_loadName_cell I.ok.kind hk hc hcell fin) hd
    · exact wpAny_Name (wpAny_loadName_free I.ok.kind hk hc hcell fin hcd) hd
theorem pe_int {i j pos} : PE X (.Constant (.int i) j pos) (tC (.int i)) := fun _ _ _ H _ I h => wpAny_Constant_int ⟨.int i, H, I.tok _, ⟨_, rfl⟩, h⟩
theorem pe_bl {b j pos} : PE X (.Constant (.bool b) j pos) (tC (.bl b)) := fun _ _ _ H _ I h => Constant_bool ⟨.bl b, H, I, rfl, h⟩
def Gl (X : Cx) (x : Str) : Prop := X.env.kindOf x = some .globalImplicit
theorem ld_glob {E : Value → Shared → Prop} {pins : List (Addr × Obj)} {s : Shared} {σ : St} {H : Hp} {x : Str} {u : Value} {pos : Pos} {Q : Value → Shared → Prop} (I : Inv X pins σ H s) (hg : Gl X x) (hm : X.mg x = some u) (h : Q u s)
    (hd : (x == ("__debug__" : Str)) = false := by decide) : wpAny (model X.prog X.w) X.A (eval (.Name x pos) X.env) Q E s :=
  Calls.Name_function_global I.ok.kind hg (Calls.loadGlobal_global (by rw [I.ok.glob]; exact I.mod.glob.keeps I.bk) hm h) hd
theorem ld_blt {E : Value → Shared → Prop} {pins : List (Addr × Obj)} {s : Shared} {σ : St} {H : Hp} {x : Str} {u : Value} {pos : Pos} {Q : Value → Shared → Prop} (I : Inv X pins σ H s) (hg : Gl X x) (hm : X.mg x = none) (hv : bootBuiltins x = some u) (h : Q u s)
    (hn : x ≠ "__name__" := by decide) (hd : (x == ("__debug__" : Str)) = false := by decide) : wpAny (model X.prog X.w) X.A (eval (.Name x pos) X.env) Q E s := by
  obtain ⟨mb, h1, h2⟩ := I.mod.blt
  exact Calls.Name_function_global I.ok.kind hg (Calls.loadGlobal_builtin (by rw [I.ok.glob]; exact I.mod.glob.keeps I.bk) hm (by rw [I.ok.blt]; exact h1.keeps I.bk) ((h2 x hn).trans hv) h) hd

theorem pe_bltn {x : Str} {v : V} {u : Value} {pos : Pos} (hg : Gl X x) (hm : X.mg x = none) (hv : bootBuiltins x = some u) (r : RelV v u) (hn : x ≠ "__name__" := by decide) (hd : (x == ("__debug__" : Str)) = false := by decide) : PE X (.Name x pos) (tC v) :=
  fun _ _ _ H _ I h => ld_blt I hg hm hv ⟨v, H, I, r, h⟩ hn hd



variable {a b : Expr} {ta tb : TE} {pos : Pos}
def tB (t : TE) : TT := fun σ H Q => t σ H fun x H1 => ∃ c, x = .bl c ∧ Q c H1
theorem pt_val {e : Expr} {t : TE} (h : PE X e t) (he : ∀ whole, isTrue e X.env whole = (do let v ← whole; standAt e.pos; holding [v] (truthy v)) := by intro _; rfl) : PT X e (tB t) := by
  intro pins s σ H Q I hw
  refine isTrue_plain (thn (h pins s σ H _ I hw) fun v s1 ⟨x, H1, I1, r1, q1⟩ => ?_) (he _)
  obtain ⟨d, rfl, q⟩ := q1
  cases r1
  exact wpAny_truthy_bool ⟨H1, I1, q⟩


variable {tA tB' : TT} {rest : List Expr}
def tOr (t u : TT) : TT := fun σ H Q => t σ H fun c H1 => if c = true then Q true H1 else u σ H1 Q
def tNot (t : TT) : TT := fun σ H Q => t σ H fun c H1 => Q (!c) H1
theorem pw_or1 (ha : PT X a tA) : PW X (.BoolOp .Or [a] pos) tA := by
  intro wh pins s σ H Q I h
  refine isTrue_or (thn (ha pins s σ H Q I h) fun c s1 e => ?_)
  cases c with
  | false => exact isTrue_or_nil e
  | true => exact e
theorem pw_or (ha : PT X a tA) (hb : PW X (.BoolOp .Or (b :: rest) pos) tB') : PW X (.BoolOp .Or (a :: b :: rest) pos) (tOr tA tB') := by
  intro wh pins s σ H Q I h
  refine isTrue_or (thn (ha pins s σ H _ I h) fun c s1 ⟨H1, I1, q1⟩ => ?_)
  cases c with
  | true => exact ⟨H1, I1, q1⟩
  | false => exact hb wh pins s1 σ H1 Q I1 q1
theorem pt_not (ha : PT X a tA) : PT X (.UnaryOp .Not a pos) (tNot tA) := by
  intro pins s σ H Q I h
  exact isTrue_not (ha pins s σ H (fun c H1 => Q (!c) H1) I h)

def tAndV (ta tb : TE) : TE := fun σ H Q => ta σ H fun x H1 => ∃ c, x = .bl c ∧ if c = true then tb σ H1 Q else Q (.bl false) H1
theorem pe_one {op} {t : TE} (h : PE X a t) : PE X (.BoolOp op [a] pos) t := fun pins s σ H Q I hw => BoolOp_one (h pins s σ H Q I hw)
theorem pe_and (ha : PE X a ta) (hb : PE X (.BoolOp .And (b :: rest) pos) tb) : PE X (.BoolOp .And (a :: b :: rest) pos) (tAndV ta tb) := by
  intro pins s σ H Q I h
  refine BoolOp_and (thn (ha pins s σ H _ I h) fun v s1 ⟨x, H1, I1, r1, q1⟩ => ?_)
  obtain ⟨c, rfl, q1⟩ := q1
  cases r1
  refine wpAny_truthy_bool ?_
  cases c with
  | true => exact hb pins s1 σ H1 Q I1 q1
  | false => exact ⟨.bl false, H1, I1, rfl, q1⟩
def tIf (t : TT) (ta tb : TE) : TE := fun σ H Q => t σ H fun c H1 => if c = true then ta σ H1 Q else tb σ H1 Q
theorem pe_ifExp {c : Expr} (hc : PT X c tA) (ha : PE X a ta) (hb : PE X b tb) : PE X (.IfExp c a b pos) (tIf tA ta tb) := by
  intro pins s σ H Q I h
  refine wpAny_IfExp (thn (hc pins s σ H _ I h) fun d s1 ⟨H1, I1, q1⟩ => ?_)
  cases d with
  | true => exact ha pins s1 σ H1 Q I1 q1
  | false => exact hb pins s1 σ H1 Q I1 q1
end
end L2

namespace L2
open PySem PySem.Spec PyProof.Rows


def SqL (K : PySem.W.Frag) (H : Hp) (a : Addr) (xs : List V) : Prop :=
  Rd H a (.lst xs) ∨
    ∃ (o : Obj) (its : Array Value) (n : Nat), K.lookup a = some o ∧ o.cls = .type "list" ∧ o.dict = none ∧ o.data = .seq its n ∧ its.size ≤ sizeLine ∧ Vals xs its.toList
def SqT (K : PySem.W.Frag) (H : Hp) (a : Addr) (xs : List V) : Prop :=
  Rd H a (.tup xs) ∨
    ∃ (o : Obj) (its : Array Value) (n : Nat), K.lookup a = some o ∧ o.cls = .type "tuple" ∧ o.data = .seq its n ∧ its.size ≤ sizeLine ∧ Vals xs its.toList
def absV : Value → Option V
  | .none => some .non
  | .bool b => some (.bl b)
  | .int i _ => some (.int i)
  | .str x _ => some (.str x)
  | .bytes b _ => some (.byt b)
  | .float b _ => some (.flt b)
  | .ref a => some (.ref a)
  | .type n => some (.ty n)
  | _ => none
theorem RelV.abs {x : V} {u : Value} (r : RelV x u) : absV u = some x := by
  cases x with
  | non => cases r; rfl
  | bl _ => cases r; rfl
  | int _ => obtain ⟨t, rfl⟩ := r; rfl
  | str _ => obtain ⟨t, rfl⟩ := r; rfl
  | byt _ => obtain ⟨t, rfl⟩ := r; rfl
  | flt _ => obtain ⟨t, rfl⟩ := r; rfl
  | ref _ => cases r; rfl
  | ty _ => cases r; rfl
theorem RelV.inj {x y : V} {u : Value} (r : RelV x u) (q : RelV y u) : x = y := Option.some.inj (r.abs.symm.trans q.abs)
theorem Vals.inj : ∀ {xs ys : List V} {us : List Value}, Vals xs us → Vals ys us → xs = ys
  | _, _, _, .nil, .nil => rfl
  | _, _, _, .cons r t, .cons r' t' => by rw [r.inj r', Vals.inj t t']
section
variable {X : Cx} {pins : List (Addr × Obj)} {σ : St} {H : Hp} {s : Shared} {a : Addr} {xs ys : List V}
theorem SqL.of {K : PySem.W.Frag} (h : H a = some (.lst xs)) : SqL K H a xs := .inl (.inl h)
theorem SqT.of {K : PySem.W.Frag} (h : H a = some (.tup xs)) : SqT K H a xs := .inl (.inl h)
theorem Inv.list (I : Inv X pins σ H s) (h : SqL X.K H a xs) : ∃ its : List Value, Vals xs its ∧ PlainL s.heap a its.toArray ∧ xs.length ≤ sizeLine := by
  rcases h with h | ⟨o, its, n, hk, hc, hd, hs, hz, r⟩
  · obtain ⟨z, its, n, r, e⟩ := h.ok I.hok
    exact ⟨its, r, ⟨_, n, e, rfl, rfl, rfl⟩, z⟩
  · refine ⟨its.toList, r, ⟨o, n, I.kIn a o hk, hc, hd, by simpa using hs⟩, ?_⟩
    have e := r.length
    simp only [Array.length_toList] at e
    omega
theorem Inv.tuple (I : Inv X pins σ H s) (h : SqT X.K H a xs) : ∃ its : List Value, Vals xs its ∧ IsTup s.heap a its.toArray ∧ xs.length ≤ sizeLine := by
  rcases h with h | ⟨o, its, n, hk, hc, hs, hz, r⟩
  · obtain ⟨z, its, r, p⟩ := h.ok I.hok
    exact ⟨its, r, p.tup, z⟩
  · refine ⟨its.toList, r, ⟨o, I.kIn a o hk, hc, n, by simpa using hs⟩, ?_⟩
    have e := r.length
    simp only [Array.length_toList] at e
    omega
theorem Inv.list_inj (I : Inv X pins σ H s) (h : SqL X.K H a xs) (h' : SqL X.K H a ys) : xs = ys := by
  obtain ⟨its, r, ⟨o, n, e, _, _, d⟩, _⟩ := I.list h
  obtain ⟨its', r', ⟨o', n', e', _, _, d'⟩, _⟩ := I.list h'
  rw [e] at e'; cases e'
  rw [d] at d'
  injection d' with d1 _
  have : its = its' := by simpa using congrArg Array.toList d1
  subst this
  exact r.inj r'
theorem Inv.tuple_inj (I : Inv X pins σ H s) (h : SqT X.K H a xs) (h' : SqT X.K H a ys) : xs = ys := by
  obtain ⟨its, r, ⟨o, e, _, n, d⟩, _⟩ := I.tuple h
  obtain ⟨its', r', ⟨o', e', _, n', d'⟩, _⟩ := I.tuple h'
  rw [e] at e'; cases e'
  rw [d] at d'
  injection d' with d1 _
  have : its = its' := by simpa using congrArg Array.toList d1
  subst this
  exact r.inj r'
end


abbrev Cx.wish (X : Cx) (E : Value → Shared → Prop) : Cx := { X with xe := E }

abbrev Cx.nox (X : Cx) : Cx := X.wish fun _ _ => False
theorem Cx.Ok.wish {X : Cx} (ok : X.Ok) (E : Value → Shared → Prop) : (X.wish E).Ok :=
  ⟨ok.mod, ok.kind, ok.glob, ok.blt, ok.above, ok.inj, ok.has, ok.cab, ok.hd, ok.frames, ok.stk, ok.exf, ok.bs, ok.bsz, ok.noex, ok.exfs, ok.funs, ok.frf⟩
theorem Cx.Ok.unwish {X : Cx} {E : Value → Shared → Prop} (ok : (X.wish E).Ok) : X.Ok :=
  ⟨ok.mod, ok.kind, ok.glob, ok.blt, ok.above, ok.inj, ok.has, ok.cab, ok.hd, ok.frames, ok.stk, ok.exf, ok.bs, ok.bsz, ok.noex, ok.exfs, ok.funs, ok.frf⟩
section
variable {X : Cx} {pins : List (Addr × Obj)} {σ : St} {H : Hp} {s : Shared} {E : Value → Shared → Prop}
theorem Inv.wish (I : Inv X pins σ H s) (E : Value → Shared → Prop) : Inv (X.wish E) pins σ H s := ⟨I.ok.wish E, I.os, I.bare, I.base, I.loc, I.cell, I.free, I.freeC, I.pin, I.hok, I.len⟩
theorem Inv.unwish (I : Inv (X.wish E) pins σ H s) : Inv X pins σ H s := ⟨I.ok.unwish, I.os, I.bare, I.base, I.loc, I.cell, I.free, I.freeC, I.pin, I.hok, I.len⟩
theorem SP.unwish {D : Ends} {f : Flow} {s' : Shared} (h : SP (X.wish E) pins D f s') : SP X pins D f s' := by
  cases f with
  | next => obtain ⟨σ', H', I, q⟩ := h; exact ⟨σ', H', I.unwish, q⟩
  | brk => obtain ⟨σ', H', I, q⟩ := h; exact ⟨σ', H', I.unwish, q⟩
  | cont => obtain ⟨σ', H', I, q⟩ := h; exact ⟨σ', H', I.unwish, q⟩
  | ret u => obtain ⟨v, σ', H', I, r, q⟩ := h; exact ⟨v, σ', H', I.unwish, r, q⟩
theorem PE.nox {e : Expr} {t : TE} (h : PE X.nox e t) : PE X e t := fun pins s σ H Q I hw =>
  wpAny_mono (h pins s σ H Q (I.wish _) hw) (fun _ _ ⟨v, H', I', r, q⟩ => ⟨v, H', I'.unwish, r, q⟩) fun _ _ z => False.elim z
theorem PT.nox {e : Expr} {t : TT} (h : PT X.nox e t) : PT X e t := fun pins s σ H Q I hw =>
  wpAny_mono (h pins s σ H Q (I.wish _) hw) (fun _ _ ⟨H', I', q⟩ => ⟨H', I'.unwish, q⟩) fun _ _ z => False.elim z
theorem PSs.nox {st : List Stmt} {t : TS} (h : PSs X.nox st t) : PSs X st t := fun pins s σ H D I hw =>
  wpAny_mono (h pins s σ H D (I.wish _) hw) (fun _ _ q => q.unwish) fun _ _ z => False.elim z
end


section
variable {X : Cx} {st : Stmt} {rest : List Stmt} {t u : TS} {e : Expr} {te : TE} {pos : Pos}
def tNext : TS := fun D σ H => D.nx σ H
def tSeq (t u : TS) : TS := fun D σ H => t { D with nx := u D } σ H
theorem pss_nil : PSs X [] tNext := fun _ _ σ H _ I h => wpAny_execs_nil ⟨σ, H, I, h⟩
theorem pss_cons (h1 : PS X st t) (h2 : PSs X rest u) : PSs X (st :: rest) (tSeq t u) := by
  intro pins s σ H D I h
  refine wpAny_execs_cons (thn (h1 pins s σ H { D with nx := u D } I h) fun f s1 q => ?_)
  cases f with
  | next =>
    obtain ⟨σ', H', I', q⟩ := q
    exact h2 pins s1 σ' H' D I' q
  | ret v => exact q
  | brk => exact q
  | cont => exact q
theorem pss_one (h1 : PS X st t) : PSs X [st] t := by
  intro pins s σ H D I h
  refine wpAny_execs_cons (thn (h1 pins s σ H D I h) fun f s1 q => ?_)
  cases f with
  | next => exact wpAny_execs_nil q
  | ret v => exact q
  | brk => exact q
  | cont => exact q
theorem Inv.quiet {pins : List (Addr × Obj)} {σ : St} {H : Hp} {s : Shared} (I : Inv X pins σ H s) : interactive X.env = false := by simp [interactive, I.ok.kind]

def tDrop (te : TE) : TS := fun D σ H => te σ H fun _ H1 => D.nx σ H1
theorem ps_expr (he : PE X e te) (hs : swapsWith e none pos.line X.env = pure false := by rfl) : PS X (.Expr e pos) (tDrop te) := by
  intro pins s σ H D I h
  exact wpAny_Expr_any (thn (he pins s σ H _ I h) fun v s1 ⟨x, H1, I1, r1, q1⟩ => ⟨σ, H1, I1, q1⟩) I.quiet hs
def tRet (te : TE) : TS := fun D σ H => te σ H D.rt
theorem ps_ret (he : PE X e te) : PS X (.Return (some e) pos) (tRet te) := by
  intro pins s σ H D I h
  exact wpAny_Return_some (thn (he pins s σ H _ I h) fun v s1 ⟨x, H1, I1, r1, q1⟩ => ⟨x, σ, H1, I1, r1, q1⟩)
def tIfS (c : TT) (t u : TS) : TS := fun D σ H => c σ H fun b H1 => if b = true then t D σ H1 else u D σ H1
theorem ps_if {c : Expr} {a b : List Stmt} {tc : TT} (hc : PT X c tc) (ha : PSs X a t) (hb : PSs X b u) : PS X (.If c a b pos) (tIfS tc t u) := by
  intro pins s σ H D I h
  refine wpAny_If (thn (hc pins s σ H _ I h) fun d s1 ⟨H1, I1, q1⟩ => ?_)
  cases d with
  | true => exact ha pins s1 σ H1 D I1 q1
  | false => exact hb pins s1 σ H1 D I1 q1

def tNever : TS := fun _ _ _ => False
theorem pss_never {sts : List Stmt} : PSs X sts tNever := fun _ _ _ _ _ _ h => h.elim
end


abbrev TG := V → St → Hp → (St → Hp → Prop) → Prop
abbrev TGs := List V → St → Hp → (St → Hp → Prop) → Prop
def PG (X : Cx) (target : Expr) (t : TG) : Prop :=
  ∀ (pins : List (Addr × Obj)) (s : Shared) (σ : St) (H : Hp) (v : V) (u : Value) (Q : St → Hp → Prop), Inv X pins σ H s → RelV v u → t v σ H Q →
    wpAny (model X.prog X.w) X.A (assign target X.env u) (fun _ s' => ∃ σ' H', Inv X pins σ' H' s' ∧ Q σ' H') X.xe s

def PGs (X : Cx) (ts : List Expr) (t : TGs) : Prop :=
  ∀ (pins : List (Addr × Obj)) (s : Shared) (σ : St) (H : Hp) (vs : List V) (us : List Value) (Q : St → Hp → Prop), Inv X pins σ H s → Vals vs us → t vs σ H Q →
    wpAny (model X.prog X.w) X.A (assignInOrder ((assignEach ts X.env).map (·.2)) us) (fun _ s' => ∃ σ' H', Inv X pins σ' H' s' ∧ Q σ' H') X.xe s

section
variable {X : Cx} {pos : Pos}
def gName (i : Nat) : TG := fun v σ H Q => Q (σ.set i (some v)) H
theorem pg_name {i : Nat} {x : Str} (hN : X.N.Nodup) (hi : X.N[i]? = some x) (hx : Loc X.env.scope x) (hf : X.fn x = true ∨ X.env.scope.names.lookup x = some .local := by first | exact .inl rfl | exact .inr rfl | assumption) : PG X (.Name x pos) (gName i) := by
  intro pins s σ H v u Q I r h
  exact wpAny_assign_Name (store_ok I hN hi hx r (fun s' I' => ⟨_, H, I', h⟩) hf)
def gNil : TGs := fun vs σ H Q => vs = [] ∧ Q σ H
def gCons (t : TG) (u : TGs) : TGs := fun vs σ H Q => ∃ v r, vs = v :: r ∧ t v σ H fun σ' H' => u r σ' H' Q
theorem pgs_nil : PGs X [] gNil := by
  intro pins s σ H vs us Q I r h
  obtain ⟨e, h⟩ := h
  subst e
  cases r
  exact assignInOrder_nil ⟨σ, H, I, h⟩
theorem pgs_cons {e : Expr} {es : List Expr} {t : TG} {u : TGs} (h1 : PG X e t) (h2 : PGs X es u)
    (hs : (assignEach (e :: es) X.env).map (·.2) = assign e X.env :: (assignEach es X.env).map (·.2) := by rfl) : PGs X (e :: es) (gCons t u) := by
  intro pins s σ H vs us Q I r h
  obtain ⟨v, vr, e1, h⟩ := h
  subst e1
  cases r with
  | cons r rr =>
    rw [hs]
    refine assignInOrder_cons (thn (h1 pins s σ H _ _ _ I r h) fun _ s1 ⟨σ1, H1, I1, q1⟩ => ?_)
    exact h2 pins s1 σ1 H1 _ _ Q I1 rr q1

def gTup (K : PySem.W.Frag) (n : Nat) (t : TGs) : TG := fun v σ H Q => ∃ a xs, v = .ref a ∧ SqT K H a xs ∧ xs.length = n ∧ t xs σ H Q
theorem pg_tup {es : List Expr} {k : Nat} {t : TGs} {n : Nat} (hc : X.calm = true) (h : PGs X es t)
    (hn : (assignEach es X.env).length = n := by rfl) (hst : (assignEach es X.env).findIdx? (·.1) = none := by rfl) : PG X (.Tuple es k pos) (gTup X.K n t) := by
  intro pins s σ H v u Q I r hw
  obtain ⟨a, xs, e1, hq, hl, hw⟩ := hw
  subst e1
  cases r
  obtain ⟨its, rv, ht, hz⟩ := I.tuple hq
  refine assign_Tuple_tuple (I.ok.hd hc) ht (by simp [hn, ← hl, rv.length]) hst fun h' hx => ?_
  have I1 : Inv X pins σ H { s with heap := h' } := I.kept (t' := s.toks) fun b o e => hx b o (Nat.ne_of_lt (Heap.lt_size e)) e
  exact h pins _ σ H xs _ Q I1 (by simpa using rv) hw

def tAsg (te : TE) (g : TG) : TS := fun D σ H => te σ H fun x H1 => g x σ H1 D.nx
theorem ps_asg {tg e : Expr} {te : TE} {g : TG} (he : PE X e te) (hg : PG X tg g) (hs : swapsWithSole [tg] e pos.line X.env = pure false := by rfl) (hw : swappedStores [tg] e X.env = pure none := by rfl)
    (h1 : (assignEach [tg] X.env).map (·.2) = [assign tg X.env] := by rfl) : PS X (.Assign [tg] e pos) (tAsg te g) := by
  intro pins s σ H D I h
  refine wpAny_Assign_stores (thn (he pins s σ H _ I h) fun v s1 ⟨x, H1, I1, r1, q1⟩ => ?_) hs hw
  rw [h1]
  exact thn (hg pins s1 σ H1 x v _ I1 r1 q1) fun _ s2 q => q

theorem ps_set {i : Nat} {x : Str} {e : Expr} {te : TE} {pos' : Pos} (hN : X.N.Nodup) (hi : X.N[i]? = some x) (hx : Loc X.env.scope x) (he : PE X e te) (hs : swapsWith e (some (.Name x pos')) pos.line X.env = pure false := by rfl) (hf : X.fn x = true ∨ X.env.scope.names.lookup x = some .local := by first | exact .inl rfl | exact .inr rfl | assumption) :
    PS X (.Assign [.Name x pos'] e pos) (tAsg te (gName i)) := by
  intro pins s σ H D I h
  refine wpAny_Assign_Name (thn (he pins s σ H _ I h) fun v s1 ⟨y, H1, I1, r1, q1⟩ => ?_) hs
  exact store_ok I1 hN hi hx r1 (fun s2 I2 => ⟨_, H1, I2, q1⟩) hf

end


section
variable {X : Cx} {pos : Pos}

def tWhile (c : TT) (tb : TS) : TS := fun D σ H => ∃ W : Nat → St → Hp → Prop, (∃ m, W m σ H) ∧ ∀ m σ H, W m σ H →
  c σ H fun b H1 => if b = true then ∃ N : St → Hp → Prop, (∀ σ' H', N σ' H' → ∃ m', m' < m ∧ W m' σ' H') ∧ tb { D with nx := N, ct := N, bk := D.nx } σ H1 else D.nx σ H1
theorem ps_while {c : Expr} {body : List Stmt} {tc : TT} {tb : TS} (hp : PassesOwn (model X.prog X.w) X.A X.env X.xe) (hc : PT X c tc) (hb : PSs X body tb) : PS X (.While c body [] pos) (tWhile tc tb) := by
  intro pins s σ H D I h
  obtain ⟨W, ⟨m0, w0⟩, turn⟩ := h
  refine wpAny_While (codeAny_whileLoop (fun n s' => ∃ σ' H', Inv X pins σ' H' s' ∧ W n σ' H') ?_ m0 ⟨σ, H, I, w0⟩)
  rintro n s1 ⟨σ1, H1, I1, w1⟩
  refine wpAny_passesOwn hp (thn (hc pins s1 σ1 H1 _ I1 (turn n σ1 H1 w1)) fun b s2 ⟨H2, I2, q2⟩ => ?_)
  cases b with
  | true =>
    obtain ⟨N, hN, q2⟩ := q2
    rw [if_pos rfl]
    refine wpAny_passesOwn hp (thn (hb pins s2 σ1 H2 _ I2 q2) fun f s3 q3 => ?_)
    cases f with
    | next =>
      obtain ⟨σ3, H3, I3, n3⟩ := q3
      obtain ⟨m', hm, w3⟩ := hN σ3 H3 n3
      exact ⟨m', hm, σ3, H3, I3, w3⟩
    | cont =>
      obtain ⟨σ3, H3, I3, n3⟩ := q3
      obtain ⟨m', hm, w3⟩ := hN σ3 H3 n3
      exact ⟨m', hm, σ3, H3, I3, w3⟩
    | brk => exact q3
    | ret v => exact q3
  | false =>
    rw [if_neg Bool.false_ne_true]
    exact wpAny_execs_nil ⟨σ1, H2, I2, q2⟩
end



structure It where
  go : Nat → Hp → Prop
  yld : Nat → Hp → V → Hp → Prop
  stop : Nat → Hp → Prop

def FpOk (X : Cx) (pins : List (Addr × Obj)) (H : Hp) (b : Addr) : Prop :=
  H b = none ∧ b ≠ X.env.locals ∧ b ∉ X.fs ∧ (b ∈ X.ex ∨ X.s_0.heap.objs.size ≤ b) ∧ (∀ x c, X.env.cells.lookup x = some c → c ≠ b) ∧ ∀ p ∈ X.pn ++ pins, p.1 ≠ b
theorem Inv.fpOk {X : Cx} {pins : List (Addr × Obj)} {σ : St} {H H' : Hp} {s : Shared} {b : Addr} (I : Inv X pins σ H s) (hb : s.heap.objs.size ≤ b) (hn : H' b = none) : FpOk X pins H' b := by
  refine ⟨hn, Nat.ne_of_gt (Nat.lt_of_lt_of_le I.lt hb), I.nofs hb, .inr (Nat.le_trans I.sz hb), fun x c e z => ?_, fun p hp z => ?_⟩
  · obtain ⟨v, q⟩ := I.cell x c e
    exact absurd (Nat.lt_of_lt_of_le q.lt (by rw [z]; exact hb)) (Nat.lt_irrefl _)
  · exact absurd (Nat.lt_of_lt_of_le (Heap.lt_size (I.pin p hp).1) (by rw [z]; exact hb)) (Nat.lt_irrefl _)
structure Turn (P : Program) (w : World) (K : PySem.W.Frag) (tg : Expr) (J : It) (fp : List Addr) (it : Addr) (tn : Nat → Heap → Prop) : Prop where
  mem : it ∈ fp
  obj : ∀ i h, tn i h → ∀ b ∈ fp, ∃ o, h.get? b = some o ∧ ∀ v, o.data ≠ .cell v
  keep : ∀ i h h', tn i h → (∀ b ∈ fp, ∀ o, h.get? b = some o → h'.get? b = some o) → tn i h'
  item : ∀ (X : Cx), X.prog = P → X.w = w → X.K = K → X.calm = true → ∀ (i : Nat) (pins : List (Addr × Obj)) (s : Shared) (σ : St) (H : Hp) (E : Value → Shared → Prop), Inv X pins σ H s → (∀ b ∈ fp, FpOk X pins H b) → tn i s.heap → J.go i H →
    wpAny (model P w) X.A (pyNext (.ref it)) (fun r s1 => ∃ u, r = some u ∧
      wpAny (model P w) X.A (letOwnedTupleGo tg (.ref it) u) (fun _ s2 => ∃ x H', Inv X pins σ H' s2 ∧ RelV x u ∧ J.yld i H x H' ∧ tn (i + 1) s2.heap ∧ ∀ b ∈ fp, H' b = none) E s1) E s
  done : ∀ (X : Cx), X.prog = P → X.w = w → X.K = K → X.calm = true → ∀ (i : Nat) (pins : List (Addr × Obj)) (s : Shared) (σ : St) (H : Hp) (E : Value → Shared → Prop), Inv X pins σ H s → (∀ b ∈ fp, FpOk X pins H b) → tn i s.heap → J.stop i H →
    wpAny (model P w) X.A (pyNext (.ref it)) (fun r s1 => r = none ∧ Inv X pins σ H s1) E s
  self : ∀ (A : Around) (i : Nat) (s : Shared) (Q : Value → Shared → Prop) (E : Value → Shared → Prop), tn i s.heap → Q (.ref it) s → wpAny (model P w) A (pyIter (.ref it)) Q E s
abbrev TI := St → Hp → (It → Hp → Prop) → Prop

def PIE (X : Cx) (pins : List (Addr × Obj)) (σ : St) (tg : Expr) (R : It → Hp → Prop) (itv : Value) (s2 : Shared) : Prop :=
  ∃ (it : Addr) (fp : List Addr) (tn : Nat → Heap → Prop) (J : It) (H' : Hp), itv = .ref it ∧ Inv X pins σ H' s2 ∧ Turn X.prog X.w X.K tg J fp it tn ∧ tn 0 s2.heap ∧ (∀ b ∈ fp, FpOk X pins H' b) ∧ R J H'
def PI (X : Cx) (tg iter : Expr) (wi : TI) : Prop :=
  ∀ (pins : List (Addr × Obj)) (s : Shared) (σ : St) (H : Hp) (R : It → Hp → Prop), Inv X pins σ H s → wi σ H R →
    wpAny (model X.prog X.w) X.A (eval iter X.env) (fun v s1 => wpAny (model X.prog X.w) X.A (pyIter v) (PIE X pins σ tg R) X.xe s1) X.xe s


theorem go_of {M : Model} {A : Around} {E : Value → Shared → Prop} {s : Shared} {tg : Expr} {it : Addr} {u : Value} {o : Obj} {n : String} {vs : Array Value} {Q : Unit → Shared → Prop} (ho : s.heap.get? it = some o) (hc : o.cls = .type n) (hd : o.data = .fields vs)
    (hn : ["enumerate", "zip", "dict_itemiterator", "dict_reverseitemiterator", "odict_iterator", "itertools.zip_longest", "itertools.pairwise"].contains n = false) (hQ : Q () s) : wpAny M A (letOwnedTupleGo tg (.ref it) u) Q E s := by
  unfold letOwnedTupleGo
  cases tg <;> first
    | exact wpAny_pure hQ
    | (cases u <;> first
        | exact wpAny_pure hQ
        | (refine wpAny_bind (wpAny_load ho ?_)
           rw [hc, hd]
           show wpAny M A (if (["enumerate", "zip", "dict_itemiterator", "dict_reverseitemiterator", "odict_iterator", "itertools.zip_longest", "itertools.pairwise"].contains n && vs[0]? == some (rawInt _)) = true then _ else _) Q E s
           rw [if_neg (by intro h; rw [hn, Bool.false_and] at h; cases h)]
           exact wpAny_pure hQ))


def Itl (K : PySem.W.Frag) (a : Addr) : It :=
  ⟨fun i H => ∃ xs x, SqL K H a xs ∧ xs[i]? = some x, fun i H x H' => H' = H ∧ ∀ xs, SqL K H a xs → xs[i]? = some x, fun i H => ∃ xs, SqL K H a xs ∧ xs.length ≤ i⟩
def Itt (K : PySem.W.Frag) (a : Addr) : It :=
  ⟨fun i H => ∃ xs x, SqT K H a xs ∧ xs[i]? = some x, fun i H x H' => H' = H ∧ ∀ xs, SqT K H a xs → xs[i]? = some x, fun i H => ∃ xs, SqT K H a xs ∧ xs.length ≤ i⟩

def Itr (lo : Int) (n : Nat) : It := ⟨fun i _ => i < n, fun i H x H' => H' = H ∧ x = .int (lo + i), fun i _ => n ≤ i⟩
theorem turn_list {P : Program} {w : World} {K : PySem.W.Frag} {tg : Expr} (a it : Addr) : Turn P w K tg (Itl K a) [it] it (fun i h => h.IsListIter it a i) where
  mem := by simp
  obj := fun i h st b hb => by
    have e : b = it := by simpa using hb
    subst e
    obtain ⟨o, e, c, d⟩ := st
    exact ⟨o, e, fun v z => by rw [d] at z; cases z⟩
  keep := fun i h h' st k => st.at fun o e => k it (by simp) o e
  item := by
    intro X hP hw hK hc i pins s σ H E I hf st hg
    subst hP hw hK
    obtain ⟨xs, x, hq, hx⟩ := hg
    obtain ⟨its, rv, p, hz⟩ := I.list hq
    obtain ⟨u, hu, ru⟩ := rv.get hx
    obtain ⟨f0, f1, f2, f3, f4, f5⟩ := hf it (by simp)
    refine wpAny_pyNext_list_item st p.isList (x := u) (by simpa using hu) fun h' st' sb => ?_
    have I1 : Inv X pins σ H { s with heap := h' } := I.turned (t' := s.toks) (fun b o hb e => (sb.2 b hb).trans e) f0 f1 f3 f4 f5
    obtain ⟨o, e, c, d⟩ := id st'
    exact ⟨u, rfl, go_of (s := { s with heap := h' }) e c d (by decide) ⟨x, H, I1, ru, ⟨rfl, fun ys hy => by rw [I.list_inj hy hq]; exact hx⟩, st', fun b hb => (hf b hb).1⟩⟩
  done := by
    intro X hP hw hK hc i pins s σ H E I hf st hg
    subst hP hw hK
    obtain ⟨xs, hq, hx⟩ := hg
    obtain ⟨its, rv, p, hz⟩ := I.list hq
    obtain ⟨f0, f1, f2, f3, f4, f5⟩ := hf it (by simp)
    have hl := rv.length
    exact wpAny_pyNext_list_end (I.ok.hd hc) st p.isList (by simp; omega) fun h' eb => ⟨rfl, I.turned (t' := s.toks) (fun b o hb e => eb b o hb e) f0 f1 f3 f4 f5⟩
  self := fun _ _ _ _ _ st h => wpAny_pyIter_listiter st h
theorem turn_tuple {P : Program} {w : World} {K : PySem.W.Frag} {tg : Expr} (a it : Addr) : Turn P w K tg (Itt K a) [it] it (fun i h => h.IsTupleIter it a i) where
  mem := by simp
  obj := fun i h st b hb => by
    have e : b = it := by simpa using hb
    subst e
    obtain ⟨o, e, c, d⟩ := st
    exact ⟨o, e, fun v z => by rw [d] at z; cases z⟩
  keep := fun i h h' st k => st.at fun o e => k it (by simp) o e
  item := by
    intro X hP hw hK hc i pins s σ H E I hf st hg
    subst hP hw hK
    obtain ⟨xs, x, hq, hx⟩ := hg
    obtain ⟨its, rv, p, hz⟩ := I.tuple hq
    obtain ⟨u, hu, ru⟩ := rv.get hx
    obtain ⟨f0, f1, f2, f3, f4, f5⟩ := hf it (by simp)
    refine wpAny_pyNext_tuple_item st (show s.heap.IsTuple a its.toArray from p) (x := u) (by simpa using hu) fun h' st' sb => ?_
    have I1 : Inv X pins σ H { s with heap := h' } := I.turned (t' := s.toks) (fun b o hb e => (sb.2 b hb).trans e) f0 f1 f3 f4 f5
    obtain ⟨o, e, c, d⟩ := id st'
    exact ⟨u, rfl, go_of (s := { s with heap := h' }) e c d (by decide) ⟨x, H, I1, ru, ⟨rfl, fun ys hy => by rw [I.tuple_inj hy hq]; exact hx⟩, st', fun b hb => (hf b hb).1⟩⟩
  done := by
    intro X hP hw hK hc i pins s σ H E I hf st hg
    subst hP hw hK
    obtain ⟨xs, hq, hx⟩ := hg
    obtain ⟨its, rv, p, hz⟩ := I.tuple hq
    obtain ⟨f0, f1, f2, f3, f4, f5⟩ := hf it (by simp)
    have hl := rv.length
    exact wpAny_pyNext_tuple_end (I.ok.hd hc) st (show s.heap.IsTuple a its.toArray from p) (by simp; omega) fun h' eb => ⟨rfl, I.turned (t' := s.toks) (fun b o hb e => eb b o hb e) f0 f1 f3 f4 f5⟩
  self := fun _ _ _ _ _ st h => wpAny_pyIter_tupleiter st h
theorem turn_range {P : Program} {w : World} {K : PySem.W.Frag} {tg : Expr} (it : Addr) (lo : Int) (n : Nat) : Turn P w K tg (Itr lo n) [it] it (fun i h => IsRangeIter h it (lo + (i : Nat) * 1) ((n : Int) - (i : Nat)) 1) where
  mem := by simp
  obj := fun i h st b hb => by
    have e : b = it := by simpa using hb
    subst e
    exact ⟨_, st, fun v z => by
      have z' : Data.fields _ = Data.cell v := z
      cases z'⟩
  keep := fun i h h' st k => k it (by simp) _ st
  item := by
    intro X hP hw hK hc i pins s σ H E I hf st hg
    subst hP hw hK
    obtain ⟨f0, f1, f2, f3, f4, f5⟩ := hf it (by simp)
    have W := Walks.range (prog := X.prog) (w := X.w) (I.ok.hd hc) it lo 1 n
    refine W.item i s _ _ hg st fun v h' tk hv st' kk => ?_
    obtain ⟨t, rfl⟩ := hv
    have I1 : Inv X pins σ H { s with heap := h', toks := tk } := I.turned (fun b o hb e => kk b o (by simpa using hb) e) f0 f1 f3 f4 f5
    refine ⟨_, rfl, go_of (s := { s with heap := h', toks := tk }) (n := "range_iterator") st' rfl rfl (by decide) ⟨.int (lo + i), H, I1, ⟨t, ?_⟩, ⟨rfl, rfl⟩, st', fun b hb => (hf b hb).1⟩⟩
    rw [Int.mul_one]
  done := by
    intro X hP hw hK hc i pins s σ H E I hf st hg
    subst hP hw hK
    obtain ⟨f0, f1, f2, f3, f4, f5⟩ := hf it (by simp)
    exact wpAny_pyNext_range_end (I.ok.hd hc) st (by have : n ≤ i := hg; omega) fun h' eb => ⟨rfl, I.turned (t' := s.toks) (fun b o hb e => eb b o hb e) f0 f1 f3 f4 f5⟩
  self := fun _ _ _ _ _ st h => wpAny_pyIter_rangeiter st h
end L2

namespace L2
open PySem PySem.Spec PyProof.Rows
section
variable {X : Cx} {tg : Expr}
def iList (K : PySem.W.Frag) (tl : TE) : TI := fun σ H R => tl σ H fun x H1 => ∃ a, x = .ref a ∧ (∃ xs, SqL K H1 a xs) ∧ R (Itl K a) H1
def iTup (K : PySem.W.Frag) (tl : TE) : TI := fun σ H R => tl σ H fun x H1 => ∃ a, x = .ref a ∧ (∃ xs, SqT K H1 a xs) ∧ R (Itt K a) H1
theorem pi_list {l : Expr} {tl : TE} (hl : PE X l tl) : PI X tg l (iList X.K tl) := by
  intro pins s σ H R I h
  refine thn (hl pins s σ H _ I h) fun v s1 ⟨x, H1, I1, r1, q1⟩ => ?_
  obtain ⟨a, e, ⟨xs, hq⟩, q⟩ := q1
  subst e
  cases r1
  obtain ⟨its, rv, p, hz⟩ := I1.list hq
  refine wpAny_pyIter_list p.isList ?_
  refine ⟨s1.heap.objs.size, [s1.heap.objs.size], _, _, H1, rfl, I1.kept (t' := s1.toks) fun b o e => Heap.get?_push_of_some _ e, turn_list a _, ⟨_, Heap.get?_push_size _ rfl, rfl, rfl⟩, fun b hb => ?_, q⟩
  have e : b = s1.heap.objs.size := by simpa using hb
  subst e
  exact I1.fpOk (Nat.le_refl _) (I1.hok.fresh (Nat.le_refl _))
theorem pi_tup {l : Expr} {tl : TE} (hl : PE X l tl) : PI X tg l (iTup X.K tl) := by
  intro pins s σ H R I h
  refine thn (hl pins s σ H _ I h) fun v s1 ⟨x, H1, I1, r1, q1⟩ => ?_
  obtain ⟨a, e, ⟨xs, hq⟩, q⟩ := q1
  subst e
  cases r1
  obtain ⟨its, rv, p, hz⟩ := I1.tuple hq
  refine wpAny_pyIter_tuple (show s1.heap.IsTuple a its.toArray from p) ?_
  refine ⟨s1.heap.objs.size, [s1.heap.objs.size], _, _, H1, rfl, I1.kept (t' := s1.toks) fun b o e => Heap.get?_push_of_some _ e, turn_tuple a _, ⟨_, Heap.get?_push_size _ rfl, rfl, rfl⟩, fun b hb => ?_, q⟩
  have e : b = s1.heap.objs.size := by simpa using hb
  subst e
  exact I1.fpOk (Nat.le_refl _) (I1.hok.fresh (Nat.le_refl _))

theorem range_it {pins : List (Addr × Obj)} {σ : St} {H : Hp} {s : Shared} {R : It → Hp → Prop} {E : Value → Shared → Prop} {lo hi : Int} {t u v : Tok} {tk : Nat} (I : Inv X pins σ H s) (h1 : -(2 ^ 62) ≤ lo) (h2 : lo < 2 ^ 62) (h3 : -(2 ^ 62) ≤ hi) (h4 : hi < 2 ^ 62)
    (q : R (Itr lo (hi - lo).toNat) H) : wpAny (model X.prog X.w) X.A (pyIter (.ref s.heap.objs.size)) (PIE X pins σ tg R) E { s with heap := s.heap.push { cls := .type "range", data := .fields #[.int lo t, .int hi u, .int 1 v] }, toks := tk } := by
  refine wpAny_pyIter_range (IsRange.new ..) (small_one h1 h2 h3 h4) ?_
  have I1 : Inv X pins σ H { s with heap := s.heap.push { cls := .type "range", data := .fields #[.int lo t, .int hi u, .int 1 v] }, toks := tk } := I.kept fun b o e => Heap.get?_push_of_some _ e
  refine ⟨(s.heap.push { cls := .type "range", data := .fields #[.int lo t, .int hi u, .int 1 v] }).objs.size, [(s.heap.push { cls := .type "range", data := .fields #[.int lo t, .int hi u, .int 1 v] }).objs.size], _, _, H, rfl,
    I1.kept (t' := tk) fun b o e => Heap.get?_push_of_some _ e, turn_range _ lo (hi - lo).toNat, ?_, fun b hb => ?_, q⟩
  · have e1 : lo + ((0 : Nat) : Int) * 1 = lo := by simp
    have e2 : (((hi - lo).toNat : Nat) : Int) - ((0 : Nat) : Int) = Builtin.Range.rangeSize lo hi 1 := by rw [rangeSize_one]; split <;> omega
    show IsRangeIter _ _ (lo + ((0 : Nat) : Int) * 1) ((((hi - lo).toNat : Nat) : Int) - ((0 : Nat) : Int)) 1
    rw [e1, e2]
    exact Heap.get?_push_size _ rfl
  · have e : b = (s.heap.push { cls := .type "range", data := .fields #[.int lo t, .int hi u, .int 1 v] }).objs.size := by simpa using hb
    subst e
    exact I1.fpOk (Nat.le_refl _) (I1.hok.fresh (Nat.le_refl _))
def iRng1 (ta : TA) : TI := fun σ H R => ta σ H fun vs H1 => ∃ j : Int, vs = [.int j] ∧ -(2 ^ 62) ≤ j ∧ j < 2 ^ 62 ∧ R (Itr 0 j.toNat) H1
theorem pi_range1 {a : Expr} {ta : TA} {p pos : Pos} (hg : Gl X "range") (hm : X.mg "range" = none) (ha : PA X [a] ta) (hs : starEach [a] X.env = [(false, eval a X.env)] := by rfl) : PI X tg (.Call (.Name "range" p) [a] [] pos) (iRng1 ta) := by
  intro pins s σ H R I h
  refine Call_ (ld_blt I hg hm boot_range (PyProof.Rows.callWith_type1 (thn (ha pos pins s σ H _ I h) fun us s1 ⟨vs, H1, I1, r1, q1⟩ => ?_) hs rfl))
  obtain ⟨j, e, q1, q2, q⟩ := q1
  subst e
  cases r1 with
  | cons r rr =>
    cases rr
    obtain ⟨t, rfl⟩ := r
    exact call_range_1 (range_it I1 (by omega) (by omega) q1 q2 (by simpa using q))
def tFor (wi : TI) (g : TG) (tb : TS) : TS := fun D σ H => wi σ H fun J H1 => ∃ W : Nat → Nat → St → Hp → Prop, (∃ m, W 0 m σ H1) ∧ ∀ i m σ H, W i m σ H →
  (J.stop i H ∧ D.nx σ H) ∨ (J.go i H ∧ ∃ N : St → Hp → Prop, (∀ σ' H', N σ' H' → ∃ m', m' < m ∧ W (i + 1) m' σ' H') ∧ ∀ x H', J.yld i H x H' → g x σ H' fun σ2 H2 => tb { D with nx := N, ct := N, bk := D.nx } σ2 H2)

def pinsAt (fp : List Addr) (h : Heap) : List (Addr × Obj) := fp.filterMap fun b => (h.get? b).map fun o => (b, o)
theorem mem_pinsAt {fp : List Addr} {h : Heap} {b : Addr} {o : Obj} (hb : b ∈ fp) (e : h.get? b = some o) : (b, o) ∈ pinsAt fp h := List.mem_filterMap.mpr ⟨b, hb, by rw [e]; rfl⟩
theorem of_pinsAt {fp : List Addr} {h : Heap} {p : Addr × Obj} (hp : p ∈ pinsAt fp h) : p.1 ∈ fp ∧ h.get? p.1 = some p.2 := by
  obtain ⟨b, hb, e⟩ := List.mem_filterMap.mp hp
  cases q : h.get? b with
  | none => rw [q] at e; cases e
  | some o =>
    rw [q] at e
    have e' : (b, o) = p := Option.some.inj e
    subst e'
    exact ⟨hb, q⟩
theorem Inv.pinned {pins : List (Addr × Obj)} {σ : St} {H : Hp} {s : Shared} {fp : List Addr} (I : Inv X pins σ H s) (hf : ∀ b ∈ fp, FpOk X pins H b) (ho : ∀ b ∈ fp, ∃ o, s.heap.get? b = some o ∧ ∀ v, o.data ≠ .cell v) : Inv X (pins ++ pinsAt fp s.heap) σ H s :=
  I.pins_of fun p hp => (List.mem_append.mp hp).elim (fun z => I.pin p (List.mem_append_right _ z)) fun z => by
    obtain ⟨hb, e⟩ := of_pinsAt z
    obtain ⟨f0, f1, f2, _⟩ := hf p.1 hb
    obtain ⟨o, e', d⟩ := ho p.1 hb
    rw [e] at e'; cases e'
    exact ⟨e, f0, f1, f2, d⟩
theorem Inv.unpinned {pins pl : List (Addr × Obj)} {σ : St} {H : Hp} {s : Shared} (I : Inv X (pins ++ pl) σ H s) : Inv X pins σ H s := I.pins_of fun p hp => I.pin p (List.mem_append_right _ (List.mem_append_left _ hp))
theorem ps_for {iter : Expr} {body : List Stmt} {wi : TI} {g : TG} {tb : TS} {pos : Pos} (hp : PassesOwn (model X.prog X.w) X.A X.env X.xe) (hc : X.calm = true) (hi : PI X tg iter wi) (hg : PG X tg g) (hb : PSs X body tb)
    (hs : ∀ x, foldedSetIterable iter X.env x = pure x := by intro _; rfl) : PS X (.For tg iter body [] pos) (tFor wi g tb) := by
  intro pins s σ H D I h
  refine wpAny_For (thn (hi pins s σ H _ I h) fun v s1 h1 => thn h1 fun itv s2 h2 => ?_) hs
  obtain ⟨it, fp, tn, J, H2, e, I2, T, st2, f2, W, ⟨m0, w0⟩, turn⟩ := h2
  subst e
  have stat : ∀ {H' : Hp}, (∀ b ∈ fp, H' b = none) → ∀ b ∈ fp, FpOk X pins H' b := fun hn b hb => ⟨hn b hb, (f2 b hb).2⟩
  refine codeAny_forLoop_any (fun n s' => ∃ i σ' H', Inv X pins σ' H' s' ∧ tn i s'.heap ∧ (∀ b ∈ fp, H' b = none) ∧ W i n σ' H') ?_ m0 ⟨0, σ, H2, I2, st2, fun b hb => (f2 b hb).1, w0⟩
  rintro n s3 ⟨i, σ3, H3, I3, st3, fr3, w3⟩
  rcases turn i n σ3 H3 w3 with ⟨stop, qn⟩ | ⟨go, N, hN, step⟩
  · refine wpAny_passesOwn hp (thn (T.done X rfl rfl rfl hc i pins s3 σ3 H3 X.xe I3 (stat fr3) st3 stop) fun r s4 ⟨hr, I4⟩ => ?_)
    subst hr
    exact wpAny_execs_nil ⟨σ3, H3, I4, qn⟩
  · refine wpAny_passesOwn hp (thn (T.item X rfl rfl rfl hc i pins s3 σ3 H3 X.xe I3 (stat fr3) st3 go) fun r s4 ⟨u, hr, h4⟩ => ?_)
    subst hr
    refine wpAny_passesOwn hp (thn h4 fun _ s5 ⟨x, H5, I5, r5, y5, st5, fr5⟩ => ?_)
    have I5' := I5.pinned (stat fr5) (T.obj _ _ st5)
    refine wpAny_passesOwn hp (thn (hg _ s5 σ3 H5 x u _ I5' r5 (step x H5 y5)) fun _ s6 ⟨σ6, H6, I6, q6⟩ => ?_)
    refine wpAny_passesOwn hp (thn (hb _ s6 σ6 H6 _ I6 q6) fun f s7 q7 => ?_)
    have again : ∀ {σ7 : St} {H7 : Hp}, Inv X (pins ++ pinsAt fp s5.heap) σ7 H7 s7 → N σ7 H7 → ∃ m, m < n ∧ ∃ i σ' H', Inv X pins σ' H' s7 ∧ tn i s7.heap ∧ (∀ b ∈ fp, H' b = none) ∧ W i m σ' H' := fun {σ7 H7} I7 n7 => by
      obtain ⟨m', hm, w7⟩ := hN σ7 H7 n7
      refine ⟨m', hm, i + 1, σ7, H7, I7.unpinned, T.keep _ _ _ st5 fun b hb o e => (I7.pin (b, o) (List.mem_append_right _ (List.mem_append_right _ (mem_pinsAt hb e)))).1, fun b hb => ?_, w7⟩
      obtain ⟨o, e, d⟩ := T.obj _ _ st5 b hb
      exact (I7.pin (b, o) (List.mem_append_right _ (List.mem_append_right _ (mem_pinsAt hb e)))).2.1
    cases f with
    | next => obtain ⟨σ7, H7, I7, n7⟩ := q7; exact again I7 n7
    | cont => obtain ⟨σ7, H7, I7, n7⟩ := q7; exact again I7 n7
    | brk => obtain ⟨σ7, H7, I7, q7⟩ := q7; exact ⟨σ7, H7, I7.unpinned, q7⟩
    | ret v => obtain ⟨x7, σ7, H7, I7, r7, q7⟩ := q7; exact ⟨x7, σ7, H7, I7.unpinned, r7, q7⟩
end



theorem for_range {lo : Int} {n : Nat} {g : TG} {tb : TS} {D : Ends} {σ : St} {H : Hp} (Pv : Nat → St → Hp → Prop) (h0 : Pv 0 σ H)
    (hs : ∀ i σ H, i < n → Pv i σ H → g (.int (lo + i)) σ H fun σ2 H2 => tb { D with nx := Pv (i + 1), ct := Pv (i + 1), bk := D.nx } σ2 H2) (hd : ∀ σ H, Pv n σ H → D.nx σ H) :
    ∃ W : Nat → Nat → St → Hp → Prop, (∃ m, W 0 m σ H) ∧ ∀ i m σ H, W i m σ H →
      ((Itr lo n).stop i H ∧ D.nx σ H) ∨ ((Itr lo n).go i H ∧ ∃ N : St → Hp → Prop, (∀ σ' H', N σ' H' → ∃ m', m' < m ∧ W (i + 1) m' σ' H') ∧ ∀ x H', (Itr lo n).yld i H x H' → g x σ H' fun σ2 H2 => tb { D with nx := N, ct := N, bk := D.nx } σ2 H2) := by
  refine ⟨fun i m σ H => m = n - i ∧ i ≤ n ∧ Pv i σ H, ⟨n, by simp, Nat.zero_le _, h0⟩, ?_⟩
  rintro i m σ H ⟨rfl, hi, p⟩
  by_cases hlt : i < n
  · refine .inr ⟨hlt, Pv (i + 1), fun σ' H' p' => ⟨n - (i + 1), by omega, rfl, hlt, p'⟩, fun x H' y => ?_⟩
    obtain ⟨e, y⟩ := y
    subst e y
    exact hs i σ _ hlt p
  · have e : i = n := by omega
    subst e
    exact .inl ⟨Nat.le_refl _, hd σ H p⟩

theorem while_by {c : TT} {tb : TS} {D : Ends} {σ : St} {H : Hp} (Pv : St → Hp → Prop) (μ : St → Hp → Nat) (h0 : Pv σ H)
    (hs : ∀ σ H, Pv σ H → c σ H fun b H1 => if b = true then tb { D with nx := fun σ' H' => Pv σ' H' ∧ μ σ' H' < μ σ H, ct := fun σ' H' => Pv σ' H' ∧ μ σ' H' < μ σ H, bk := D.nx } σ H1 else D.nx σ H1)
    (mono : ∀ σ H Q Q', (∀ b H1, Q b H1 → Q' b H1) → c σ H Q → c σ H Q') : tWhile c tb D σ H := by
  refine ⟨fun m σ H => m = μ σ H ∧ Pv σ H, ⟨_, rfl, h0⟩, ?_⟩
  rintro m σ H ⟨rfl, p⟩
  refine mono σ H _ _ (fun b H1 q => ?_) (hs σ H p)
  cases b with
  | true => exact ⟨_, fun σ' H' ⟨p', l⟩ => ⟨_, l, rfl, p'⟩, q⟩
  | false => exact q
end L2

namespace L2
open PySem PySem.Spec PyProof.Rows

abbrev R2 := V → V → Hp → VK → Prop

def OpR (X : Cx) (f : Value → Value → Sem Value) (r : R2) : Prop :=
  ∀ (pins : List (Addr × Obj)) (s : Shared) (σ : St) (H : Hp) (x y : V) (v u : Value) (Q : VK), Inv X pins σ H s → RelV x v → RelV y u → r x y H Q →
    wpAny (model X.prog X.w) X.A (f v u) (EP X pins σ Q) X.xe s

def UnR (X : Cx) (f : Value → Sem Value) (r : V → Hp → VK → Prop) : Prop :=
  ∀ (pins : List (Addr × Obj)) (s : Shared) (σ : St) (H : Hp) (x : V) (v : Value) (Q : VK), Inv X pins σ H s → RelV x v → r x H Q →
    wpAny (model X.prog X.w) X.A (f v) (EP X pins σ Q) X.xe s

def CallR (X : Cx) (f : Value) (r : List V → Hp → VK → Prop) : Prop :=
  ∀ (pins : List (Addr × Obj)) (s : Shared) (σ : St) (H : Hp) (xs : List V) (us : List Value) (Q : VK), Inv X pins σ H s → Vals xs us → r xs H Q →
    wpAny (model X.prog X.w) X.A (call f us) (EP X pins σ Q) X.xe s

def TruR (X : Cx) (r : V → Hp → (Bool → Hp → Prop) → Prop) : Prop :=
  ∀ (pins : List (Addr × Obj)) (s : Shared) (σ : St) (H : Hp) (x : V) (v : Value) (Q : Bool → Hp → Prop), Inv X pins σ H s → RelV x v → r x H Q →
    wpAny (model X.prog X.w) X.A (truthy v) (TP X pins σ Q) X.xe s

def tOp (r : R2) (ta tb : TE) : TE := fun σ H Q => ta σ H fun x H1 => tb σ H1 fun y H2 => r x y H2 Q
def tUn (r : V → Hp → VK → Prop) (ta : TE) : TE := fun σ H Q => ta σ H fun x H1 => r x H1 Q

def rI (C : Int → Int → Prop) (g : Int → Int → V) : R2 := fun x y H Q => ∃ i j, x = .int i ∧ y = .int j ∧ C i j ∧ Q (g i j) H
def rI0 (g : Int → Int → V) : R2 := fun x y H Q => ∃ i j, x = .int i ∧ y = .int j ∧ Q (g i j) H
def rU (g : Int → V) : V → Hp → VK → Prop := fun x H Q => ∃ i, x = .int i ∧ Q (g i) H

section
variable {X : Cx} {a b c : Expr} {ta tb tc : TE} {pos : Pos}

theorem binT (ha : PE X a ta) (hb : PE X b tb) {pins : List (Addr × Obj)} {s : Shared} {σ : St} {H : Hp} {R : V → V → Hp → Prop} (I : Inv X pins σ H s)
    (h : ta σ H fun x H1 => tb σ H1 fun y H2 => R x y H2) {Q : Value → Shared → Prop} {f : Value → Value → Sem Value}
    (hf : ∀ v u s2 x y H2, Inv X pins σ H2 s2 → RelV x v → RelV y u → R x y H2 → wpAny (model X.prog X.w) X.A (f v u) Q X.xe s2) :
    wpAny (model X.prog X.w) X.A (eval a X.env) (fun v s₁ => wpAny (model X.prog X.w) X.A (eval b X.env) (fun u s₂ => wpAny (model X.prog X.w) X.A (f v u) Q X.xe s₂) X.xe s₁) X.xe s := by
  refine thn (ha pins s σ H _ I h) fun v s1 ⟨x, H1, I1, r1, q1⟩ => ?_
  refine thn (hb pins s1 σ H1 _ I1 q1) fun u s2 ⟨y, H2, I2, r2, q2⟩ => ?_
  exact hf v u s2 x y H2 I2 r1 r2 q2

theorem pe_op {op : Operator} {r : R2} (ho : OpR X (binaryOp op) r) (ha : PE X a ta) (hb : PE X b tb) : PE X (.BinOp a op b pos) (tOp r ta tb) := by
  intro pins s σ H Q I h
  exact wpAny_BinOp (binT ha hb I h fun v u s2 x y H2 I2 rx ry q => ho pins s2 σ H2 x y v u Q I2 rx ry q)
theorem pe_un {op : UnaryOp} {r : V → Hp → VK → Prop} (ho : UnR X (unaryOp op) r) (ha : PE X a ta) : PE X (.UnaryOp op a pos) (tUn r ta) := by
  intro pins s σ H Q I h
  exact UnaryOp_ (thn (ha pins s σ H _ I h) fun v s1 ⟨x, H1, I1, r1, q1⟩ => ho pins s1 σ H1 x v Q I1 r1 q1)

theorem opI {f : Value → Value → Sem Value} {C : Int → Int → Prop} {g : Int → Int → Int}
    (rule : ∀ (i j : Int) (t u : Tok) (s : Shared) (Q : Value → Shared → Prop) (E : Value → Shared → Prop), C i j → Q (.int (g i j) s.toks) { s with toks := s.toks + 1 } → wpAny (model X.prog X.w) X.A (f (.int i t) (.int j u)) Q E s) :
    OpR X f (rI C fun i j => .int (g i j)) := by
  intro pins s σ H x y v u Q I rx ry h
  obtain ⟨i, j, rfl, rfl, hc, q⟩ := h
  obtain ⟨t, rfl⟩ := rx
  obtain ⟨t', rfl⟩ := ry
  exact rule i j t t' s _ _ hc ⟨.int (g i j), H, I.tok _, ⟨_, rfl⟩, q⟩
theorem opI0 {f : Value → Value → Sem Value} {g : Int → Int → Int}
    (rule : ∀ (i j : Int) (t u : Tok) (s : Shared) (Q : Value → Shared → Prop) (E : Value → Shared → Prop), Q (.int (g i j) s.toks) { s with toks := s.toks + 1 } → wpAny (model X.prog X.w) X.A (f (.int i t) (.int j u)) Q E s) :
    OpR X f (rI0 fun i j => .int (g i j)) := by
  intro pins s σ H x y v u Q I rx ry h
  obtain ⟨i, j, rfl, rfl, q⟩ := h
  obtain ⟨t, rfl⟩ := rx
  obtain ⟨t', rfl⟩ := ry
  exact rule i j t t' s _ _ ⟨.int (g i j), H, I.tok _, ⟨_, rfl⟩, q⟩
theorem opB0 {f : Value → Value → Sem Value} {g : Int → Int → Bool}
    (rule : ∀ (i j : Int) (t u : Tok) (s : Shared) (Q : Value → Shared → Prop) (E : Value → Shared → Prop), Q (.bool (g i j)) s → wpAny (model X.prog X.w) X.A (f (.int i t) (.int j u)) Q E s) :
    OpR X f (rI0 fun i j => .bl (g i j)) := by
  intro pins s σ H x y v u Q I rx ry h
  obtain ⟨i, j, rfl, rfl, q⟩ := h
  obtain ⟨t, rfl⟩ := rx
  obtain ⟨t', rfl⟩ := ry
  exact rule i j t t' s _ _ ⟨.bl (g i j), H, I, rfl, q⟩

def CDiv (i j : Int) : Prop := 0 < j ∧ j < 1073741824
def CPow (i j : Int) : Prop := 0 ≤ j ∧ j ≤ 1000000 ∧ i.natAbs < 2 ^ 64
def CMul (i j : Int) : Prop := (-(2 ^ 64) < i ∧ i < 2 ^ 64) ∨ (-(2 ^ 64) < j ∧ j < 2 ^ 64)
theorem CMul.ok {i j : Int} (h : CMul i j) : IntMulOk i j := by
  rcases h with ⟨h1, h2⟩ | ⟨h1, h2⟩
  · exact .of_left (intBits_le_64 h1 h2)
  · exact .of_right (intBits_le_64 h1 h2)
theorem op_add : OpR X (binaryOp .Add) (rI0 fun i j => .int (i + j)) := opI0 fun _ _ _ _ _ _ _ q => add_int q
theorem op_sub : OpR X (binaryOp .Sub) (rI0 fun i j => .int (i - j)) := opI0 fun _ _ _ _ _ _ _ q => sub_int q
theorem op_mul : OpR X (binaryOp .Mult) (rI CMul fun i j => .int (i * j)) := opI fun _ _ _ _ _ _ _ hc q => mul_int q hc.ok

theorem op_fdiv : OpR X (binaryOp .FloorDiv) (rI CDiv fun i j => .int (i / j)) := opI fun i j _ _ _ _ _ hc q => by
  have h1 : (0 : Int) < j := hc.1
  have h2 : j < 1073741824 := hc.2
  exact floordiv_int (by omega) (by rw [Int.fdiv_eq_ediv_of_nonneg i (by omega)]; exact q) (.inl (PyProof.noPylong_small (by omega)))
theorem op_mod : OpR X (binaryOp .Mod) (rI (fun _ j => 0 < j) fun i j => .int (i % j)) := opI fun i j _ _ _ _ _ hc q => by
  have h1 : (0 : Int) < j := hc
  exact mod_int' (by omega) (by rw [Int.fmod_eq_emod_of_nonneg i (by omega)]; exact q)
theorem op_pow : OpR X (binaryOp .Pow) (rI CPow fun i j => .int (i ^ j.toNat)) := opI fun _ _ _ _ _ _ _ hc q => pow_int_small hc.1 hc.2.1 hc.2.2 q
theorem unI {f : Value → Sem Value} {g : Int → Int}
    (rule : ∀ (i : Int) (t : Tok) (s : Shared) (Q : Value → Shared → Prop) (E : Value → Shared → Prop), Q (.int (g i) s.toks) { s with toks := s.toks + 1 } → wpAny (model X.prog X.w) X.A (f (.int i t)) Q E s) :
    UnR X f (rU fun i => .int (g i)) := by
  intro pins s σ H x v Q I rx h
  obtain ⟨i, rfl, q⟩ := h
  obtain ⟨t, rfl⟩ := rx
  exact rule i t s _ _ ⟨.int (g i), H, I.tok _, ⟨_, rfl⟩, q⟩
theorem un_neg : UnR X (unaryOp .USub) (rU fun i => .int (-i)) := unI fun _ _ _ _ _ q => neg_int q
end



def scal : V → V → Bool
  | .non, .non => true | .non, .int _ => true | .int _, .non => true | .non, .bl _ => true | .bl _, .non => true | .non, .str _ => true | .str _, .non => true
  | .int _, .int _ => true | .bl _, .bl _ => true | .str _, .str _ => true | .byt _, .byt _ => true
  | .int _, .str _ => true | .str _, .int _ => true | .bl _, .str _ => true | .str _, .bl _ => true
  | _, _ => false
def rEq : R2 := fun x y H Q => scal x y = true ∧ Q (.bl (decide (x = y))) H
def rNe : R2 := fun x y H Q => scal x y = true ∧ Q (.bl (!decide (x = y))) H

theorem dec_int {i j : Int} : decide (V.int i = V.int j) = (i == j) := by
  rw [Bool.eq_iff_iff]
  simp
theorem dec_bl {i j : Bool} : decide (V.bl i = V.bl j) = (i == j) := by
  rw [Bool.eq_iff_iff]
  simp
theorem dec_str {i j : Str} : decide (V.str i = V.str j) = (i == j) := by
  rw [Bool.eq_iff_iff]
  simp
theorem dec_byt {i j : Array UInt8} : decide (V.byt i = V.byt j) = (i.toList == j.toList) := by
  rw [Bool.eq_iff_iff]
  cases i
  cases j
  simp

section
variable {X : Cx} {a b c : Expr} {ta tb tc : TE} {pos : Pos}
theorem fin_bl {pins : List (Addr × Obj)} {σ : St} {H : Hp} {s : Shared} {Q : VK} {k k' : Bool} (I : Inv X pins σ H s) (q : Q (.bl k) H) (e : k = k') : EP X pins σ Q (.bool k') s := by
  subst e
  exact ⟨.bl k, H, I, rfl, q⟩
theorem op_eq : OpR X (compareOp .Eq) rEq := by
  intro pins s σ H x y v u Q I rx ry h
  obtain ⟨hs, q⟩ := h
  cases x with
  | non =>
    cases rx
    cases y with
    | non => cases ry; exact PySem.EqNone.eq_none_none (fin_bl I q (by simp))
    | bl j => cases ry; exact PySem.EqNone.eq_none_bool (fin_bl I q (by simp))
    | int j => obtain ⟨t', rfl⟩ := ry; exact PySem.EqNone.eq_none_int (fin_bl I q (by simp))
    | str j => obtain ⟨t', rfl⟩ := ry; exact PySem.EqNone.eq_none_str (fin_bl I q (by simp))
    | _ => exact absurd (show false = true from hs) Bool.false_ne_true
  | bl i =>
    cases rx
    cases y with
    | non => cases ry; exact PySem.EqNone.eq_bool_none (fin_bl I q (by simp))
    | bl j => cases ry; exact eq_bool (fin_bl I q dec_bl)
    | str j => obtain ⟨t', rfl⟩ := ry; exact PySem.EqMixed.eq_bool_str (fin_bl I q (by simp))
    | _ => exact absurd (show false = true from hs) Bool.false_ne_true
  | int i =>
    obtain ⟨t, rfl⟩ := rx
    cases y with
    | non => cases ry; exact PySem.EqNone.eq_int_none (fin_bl I q (by simp))
    | int j => obtain ⟨t', rfl⟩ := ry; exact eq_int (fin_bl I q dec_int)
    | str j => obtain ⟨t', rfl⟩ := ry; exact PySem.EqMixed.eq_int_str (fin_bl I q (by simp))
    | _ => exact absurd (show false = true from hs) Bool.false_ne_true
  | str i =>
    obtain ⟨t, rfl⟩ := rx
    cases y with
    | non => cases ry; exact PySem.EqNone.eq_str_none (fin_bl I q (by simp))
    | bl j => cases ry; exact PySem.EqMixed.eq_str_bool (fin_bl I q (by simp))
    | int j => obtain ⟨t', rfl⟩ := ry; exact PySem.EqMixed.eq_str_int (fin_bl I q (by simp))
    | str j => obtain ⟨t', rfl⟩ := ry; exact eq_str (fin_bl I q dec_str)
    | _ => exact absurd (show false = true from hs) Bool.false_ne_true
  | byt i =>
    obtain ⟨t, rfl⟩ := rx
    cases y with
    | byt j => obtain ⟨t', rfl⟩ := ry; exact PySem.W.eq_bytes (fin_bl I q dec_byt)
    | _ => exact absurd (show false = true from hs) Bool.false_ne_true
  | _ => cases y <;> exact absurd (show false = true from hs) Bool.false_ne_true
theorem op_ne : OpR X (compareOp .NotEq) rNe := by
  intro pins s σ H x y v u Q I rx ry h
  obtain ⟨hs, q⟩ := h
  cases x with
  | non =>
    cases rx
    cases y with
    | non => cases ry; exact PySem.EqNone.ne_none_none (fin_bl I q (by simp))
    | bl j => cases ry; exact PySem.EqNone.ne_none_bool (fin_bl I q (by simp))
    | int j => obtain ⟨t', rfl⟩ := ry; exact PySem.EqNone.ne_none_int (fin_bl I q (by simp))
    | str j => obtain ⟨t', rfl⟩ := ry; exact PySem.EqNone.ne_none_str (fin_bl I q (by simp))
    | _ => exact absurd (show false = true from hs) Bool.false_ne_true
  | bl i =>
    cases rx
    cases y with
    | non => cases ry; exact PySem.EqNone.ne_bool_none (fin_bl I q (by simp))
    | bl j => cases ry; exact ne_bool (fin_bl I q (congrArg not dec_bl))
    | str j => obtain ⟨t', rfl⟩ := ry; exact PySem.EqMixed.ne_bool_str (fin_bl I q (by simp))
    | _ => exact absurd (show false = true from hs) Bool.false_ne_true
  | int i =>
    obtain ⟨t, rfl⟩ := rx
    cases y with
    | non => cases ry; exact PySem.EqNone.ne_int_none (fin_bl I q (by simp))
    | int j => obtain ⟨t', rfl⟩ := ry; exact ne_int (fin_bl I q (congrArg not dec_int))
    | str j => obtain ⟨t', rfl⟩ := ry; exact PySem.EqMixed.ne_int_str (fin_bl I q (by simp))
    | _ => exact absurd (show false = true from hs) Bool.false_ne_true
  | str i =>
    obtain ⟨t, rfl⟩ := rx
    cases y with
    | non => cases ry; exact PySem.EqNone.ne_str_none (fin_bl I q (by simp))
    | bl j => cases ry; exact PySem.EqMixed.ne_str_bool (fin_bl I q (by simp))
    | int j => obtain ⟨t', rfl⟩ := ry; exact PySem.EqMixed.ne_str_int (fin_bl I q (by simp))
    | str j => obtain ⟨t', rfl⟩ := ry; exact ne_str (fin_bl I q (congrArg not dec_str))
    | _ => exact absurd (show false = true from hs) Bool.false_ne_true
  | byt i =>
    obtain ⟨t, rfl⟩ := rx
    cases y with
    | byt j => obtain ⟨t', rfl⟩ := ry; exact PySem.W.ne_bytes (fin_bl I q (congrArg not dec_byt))
    | _ => exact absurd (show false = true from hs) Bool.false_ne_true
  | _ => cases y <;> exact absurd (show false = true from hs) Bool.false_ne_true

theorem op_lt : OpR X (compareOp .Lt) (rI0 fun i j => .bl (decide (i < j))) := opB0 fun _ _ _ _ _ _ _ q => lt_int q
theorem op_gt : OpR X (compareOp .Gt) (rI0 fun i j => .bl (decide (j < i))) := opB0 fun _ _ _ _ _ _ _ q => gt_int q
theorem op_ge : OpR X (compareOp .GtE) (rI0 fun i j => .bl (decide (j ≤ i))) := opB0 fun _ _ _ _ _ _ _ q => ge_int q
theorem OpR.or {f : Value → Value → Sem Value} {r r' : R2} (h : OpR X f r) (h' : OpR X f r') : OpR X f (fun x y H Q => r x y H Q ∨ r' x y H Q) := by
  intro pins s σ H x y v u Q I rx ry q
  rcases q with q | q
  · exact h pins s σ H x y v u Q I rx ry q
  · exact h' pins s σ H x y v u Q I rx ry q

theorem nomark (b : Expr) {op : CmpOp} (h : op ≠ .In := by decide) (h2 : op ≠ .NotIn := by decide) : behindInMarks op b = false := by
  have e1 : (op == CmpOp.In) = false := by cases op <;> first | rfl | exact absurd rfl h
  have e2 : (op == CmpOp.NotIn) = false := by cases op <;> first | rfl | exact absurd rfl h2
  cases b <;> simp [behindInMarks, e1, e2]

theorem pe_cmpR {op : CmpOp} {r : R2} (ho : OpR X (compareOp op) r) (ha : PE X a ta) (hb : PE X b tb) (hm : behindInMarks op b = false) : PE X (.Compare a [op] [b] pos) (tOp r ta tb) := by
  intro pins s σ H Q I h
  exact wpAny_Compare1 (binT ha hb I h fun v u s2 x y H2 I2 rx ry q => ho pins s2 σ H2 x y v u Q I2 rx ry q) hm

def tTest (t : TE) : TT := fun σ H Q => t σ H fun x H' => ∃ k, x = .bl k ∧ Q k H'
theorem pt_cmpR {op : CmpOp} {r : R2} (ho : OpR X (compareOp op) r) (ha : PE X a ta) (hb : PE X b tb) (hm : behindInMarks op b = false) : PT X (.Compare a [op] [b] pos) (tTest (tOp r ta tb)) := by
  intro pins s σ H Q I h
  refine wpAny_isTrue_Compare1 (thn (ha pins s σ H _ I h) fun v s1 ⟨x, H1, I1, r1, q1⟩ => thn (hb pins s1 σ H1 _ I1 q1) fun u s2 ⟨y, H2, I2, r2, q2⟩ =>
    thn (ho pins s2 σ H2 x y v u _ I2 r1 r2 q2) fun c s3 ⟨z, H3, I3, r3, k, e, q3⟩ => ?_) hm
  subst e
  cases r3
  exact wpAny_truthy_bool ⟨H3, I3, q3⟩

def TruV (K : PySem.W.Frag) (x : V) (H : Hp) (k : Bool) : Prop :=
  match x with
  | .non => k = false
  | .bl b => k = b
  | .int i => k = (i != 0)
  | .str y => y.length ≤ sizeLine ∧ k = ((y.length : Int) != 0)
  | .byt y => y.size ≤ sizeLine ∧ k = ((y.size : Int) != 0)
  | .ref p => (∃ xs, SqL K H p xs ∧ k = !xs.isEmpty) ∨ (∃ xs, SqT K H p xs ∧ k = !xs.isEmpty) ∨ ∃ kvs, H p = some (.dK kvs) ∧ k = !kvs.isEmpty
  | _ => False
theorem isEmpty_kv {κ : Type} {kvs : List (κ × V)} {vs : List (κ × Value)} (r : KV kvs vs) : (!vs.isEmpty) = !kvs.isEmpty := by
  cases r <;> rfl
theorem isEmpty_of {xs : List V} {its : List Value} (r : Vals xs its) : (!its.toArray.isEmpty) = !xs.isEmpty := by
  cases r <;> simp
theorem line63 : (sizeLine : Nat) < 2 ^ 63 := by rw [sizeLine_eq]; decide
theorem tru_ok : TruR X (fun x H Q => ∃ k, TruV X.K x H k ∧ Q k H) := by
  intro pins s σ H x v Q I rx h
  obtain ⟨k, e, q⟩ := h
  have hl := line63
  have hs : sizeLine = 16777216 := sizeLine_eq
  cases x with
  | non =>
    cases rx
    have e' : k = false := e
    subst e'
    exact truthy_none ⟨H, I, q⟩
  | bl b =>
    cases rx
    have e' : k = b := e
    subst e'
    exact wpAny_truthy_bool ⟨H, I, q⟩
  | int i =>
    obtain ⟨t, rfl⟩ := rx
    have e' : k = (i != 0) := e
    subst e'
    exact PySem.P.truthy_int ⟨H, I, q⟩
  | str y =>
    obtain ⟨t, rfl⟩ := rx
    obtain ⟨hy, e'⟩ : y.length ≤ sizeLine ∧ k = ((y.length : Int) != 0) := e
    subst e'
    exact PySem.P.truthy_str (by omega) ⟨H, I.tok _, q⟩
  | byt y =>
    obtain ⟨t, rfl⟩ := rx
    obtain ⟨hy, e'⟩ : y.size ≤ sizeLine ∧ k = ((y.size : Int) != 0) := e
    subst e'
    exact PySem.W.truthy_bytes (by omega) ⟨H, I.tok _, q⟩
  | ref p =>
    cases rx
    have e' : (∃ xs, SqL X.K H p xs ∧ k = !xs.isEmpty) ∨ (∃ xs, SqT X.K H p xs ∧ k = !xs.isEmpty) ∨ ∃ kvs, H p = some (.dK kvs) ∧ k = !kvs.isEmpty := e
    rcases e' with ⟨xs, hx, e'⟩ | ⟨xs, hx, e'⟩ | ⟨kvs, hx, e'⟩
    · subst e'
      obtain ⟨its, r, pl, hz⟩ := I.list hx
      have hlen := r.length
      exact wpAny_truthy_list pl.isList (by simp only [List.size_toArray]; omega) ⟨H, I.tok _, by rw [isEmpty_of r]; exact q⟩
    · subst e'
      obtain ⟨its, r, pl, hz⟩ := I.tuple hx
      have hlen := r.length
      exact truthy_tuple pl (by simp only [List.size_toArray]; omega) ⟨H, I.tok _, by rw [isEmpty_of r]; exact q⟩
    · subst e'
      obtain ⟨hz, hS, vs, r, m⟩ : kvs.length ≤ sizeLine ∧ (p == sysModules) = false ∧ ∃ vs, KV kvs vs ∧ s.heap.DictOf (mixKind X.prog X.w) p vs := I.hok p _ hx
      have hlen : kvs.length = vs.length := Paired.length r
      exact wpAny_truthy_dict hS m (by omega) ⟨H, I.tok _, by rw [isEmpty_kv r]; exact q⟩
  | _ => exact (show False from e).elim

theorem pt_truth (ha : PE X a ta) (he : ∀ whole, isTrue a X.env whole = (do let v ← whole; standAt a.pos; holding [v] (truthy v))) :
    PT X a (fun σ H Q => ta σ H fun x H' => ∃ k, TruV X.K x H' k ∧ Q k H') := by
  intro pins s σ H Q I h
  exact isTrue_plain (thn (ha pins s σ H _ I h) fun v s1 ⟨x, H1, I1, r1, q1⟩ => tru_ok pins s1 σ H1 x v Q I1 r1 q1) (he _)


theorem vals1 {x : V} {us : List Value} (r : Vals [x] us) : ∃ u, us = [u] ∧ RelV x u := by
  cases r with
  | cons r1 r2 => cases r2; exact ⟨_, rfl, r1⟩
theorem vals2 {x y : V} {us : List Value} (r : Vals [x, y] us) : ∃ u w', us = [u, w'] ∧ RelV x u ∧ RelV y w' := by
  cases r with
  | cons r1 r2 =>
    cases r2 with
    | cons r3 r4 => cases r4; exact ⟨_, _, rfl, r1, r3⟩
theorem call_abs : CallR X (.builtin "abs") (fun xs H Q => ∃ i, xs = [.int i] ∧ Q (.int (if i < 0 then -i else i)) H) := by
  intro pins s σ H xs us Q I r h
  obtain ⟨i, rfl, q⟩ := h
  obtain ⟨u, rfl, t, rfl⟩ := vals1 r
  exact call_abs_int fun u tk => ⟨.int (if i < 0 then -i else i), H, I.tok _, ⟨_, rfl⟩, q⟩
theorem call_max2 (hc : X.calm = true) : CallR X (.builtin "max") (fun xs H Q => ∃ i j, xs = [.int i, .int j] ∧ Q (.int (if j > i then j else i)) H) := by
  intro pins s σ H xs us Q I r h
  obtain ⟨i, j, rfl, q⟩ := h
  obtain ⟨u, w', rfl, ⟨t, rfl⟩, ⟨t', rfl⟩⟩ := vals2 r
  refine max_two_ints (I.ok.hd hc) fun h' tk k => ⟨_, H, I.kept k, ?_, q⟩
  by_cases hj : j > i
  · rw [if_pos hj, if_pos hj]; exact ⟨_, rfl⟩
  · rw [if_neg hj, if_neg hj]; exact ⟨_, rfl⟩
theorem call_min2 (hc : X.calm = true) : CallR X (.builtin "min") (fun xs H Q => ∃ i j, xs = [.int i, .int j] ∧ Q (.int (if j < i then j else i)) H) := by
  intro pins s σ H xs us Q I r h
  obtain ⟨i, j, rfl, q⟩ := h
  obtain ⟨u, w', rfl, ⟨t, rfl⟩, ⟨t', rfl⟩⟩ := vals2 r
  refine min_two_ints (I.ok.hd hc) fun h' tk k => ⟨_, H, I.kept k, ?_, q⟩
  by_cases hj : j < i
  · rw [if_pos hj, if_pos hj]; exact ⟨_, rfl⟩
  · rw [if_neg hj, if_neg hj]; exact ⟨_, rfl⟩
end
end L2

namespace L2
open PySem PySem.Spec PyProof.Rows


structure ObjM (h : Heap) (x dx C : Addr) (mA : Str → Option Value) : Prop where
  obj : h.get? x = some (PySem.W.instObj C dx)
  ns : h.Ns1 dx mA
  ne : dx ≠ x

theorem lookIn_ns {h : Heap} {dx : Addr} {mA : Str → Option Value} (n : h.Ns1 dx mA) : ∃ od, h.get? dx = some od ∧ ∀ name, PySem.W.lookIn name od = some (mA name) := by
  obtain ⟨o, es, ep, ho, hd, hk, _, hm⟩ := n
  refine ⟨o, ho, fun name => ?_⟩
  have e := hm name
  unfold nsFind findBy at e
  rw [← Array.find?_toList] at e
  unfold PySem.W.lookIn
  rw [hd]
  dsimp only
  split
  · rename_i y q
    rw [q] at e
    exact congrArg some e
  · rename_i q
    rw [q] at e
    have a : es.toList.any (·.refKey) = false := by
      rw [List.any_eq_false]
      intro y hy
      obtain ⟨z, t, hkey⟩ := hk y (Array.mem_toList_iff.mp hy)
      simp [DictEntry.refKey, hkey]
    have a' : ¬ es.toList.any (·.refKey) = true := by rw [a]; exact Bool.false_ne_true
    rw [if_neg a']
    exact congrArg some e

theorem ObjM.look {h : Heap} {x dx C : Addr} {mA : Str → Option Value} (I : ObjM h x dx C mA) : ∃ od, PySem.W.InstAt h x (PySem.W.instObj C dx) C (some od) ∧ ∀ name, PySem.W.lookIn name od = some (mA name) :=
  let ⟨od, ho, hl⟩ := lookIn_ns I.ns
  ⟨od, ⟨I.obj, rfl, rfl, ho⟩, hl⟩

section
variable {prog : Program} {w : World} {A : Around} {E : Value → Shared → Prop} {s : Shared} {K : PySem.W.Frag} {x dx C f : Addr} {mA : Str → Option Value} {name : Str} {v : Value}

end


def putF (f : Str) (v : V) : List (Str × V) → List (Str × V)
  | [] => [(f, v)]
  | (g, x) :: r => if g = f then (g, v) :: r else (g, x) :: putF f v r
section
variable {P : Program} {w : World} {H H' : Hp} {h h' : Heap} {a C dx : Addr} {fs fs' : List (Str × V)}
end


structure Cls (K : PySem.W.Frag) (C : Addr) : Prop where
  pg : PySem.W.plainGet K C Str.empty = true
  hd : PySem.W.hasDictIn K C = true
  po : PySem.W.plainOver K C = true
  sa : PySem.W.findIn K (.ref C) "__setattr__" = some (some (.builtin "object.__setattr__"))
theorem Cls.get {K : PySem.W.Frag} {C : Addr} (c : Cls K C) (f : Str) : PySem.W.plainGet K C f = true := c.pg

structure Con (K : PySem.W.Frag) (C : Addr) (f : Str) (v : V) (u : Value) : Prop where
  at_ : PySem.W.findIn K (.ref C) f = some (some u)
  rel : RelV v u
  get : PySem.W.specialIn K u "__get__" = some none
  cp : PySem.W.copiedNames.contains f = false

structure Meth (K : PySem.W.Frag) (C : Addr) (m : Str) (f : Addr) : Prop where
  at_ : PySem.W.findIn K (.ref C) m = some (some (.ref f))
  fn : PySem.W.isFn K (.ref f) = true
  kp : PySem.W.keepIn K (.ref f) = true

section
variable {X : Cx} {pins : List (Addr × Obj)} {σ : St} {H : Hp} {s : Shared} {a C dx : Addr} {fs : List (Str × V)} {f : Str} {v : V} {A : Around} {E : Value → Shared → Prop}

theorem Inv.made (I : Inv X pins σ H s) : Inv X pins σ (upd (upd H s.heap.objs.size (.own (s.heap.objs.size + 1))) (s.heap.objs.size + 1) (.ins C s.heap.objs.size []))
    { s with heap := (s.heap.push PySem.W.emptyDict).push (PySem.W.instObj C s.heap.objs.size) } := by
  have e1 : (s.heap.push PySem.W.emptyDict).get? s.heap.objs.size = some PySem.W.emptyDict := Heap.get?_push_size s.heap rfl
  have e2 : ((s.heap.push PySem.W.emptyDict).push (PySem.W.instObj C s.heap.objs.size)).get? (s.heap.objs.size + 1) = some (PySem.W.instObj C s.heap.objs.size) := by
    have := Heap.get?_push_size (s.heap.push PySem.W.emptyDict) (o := PySem.W.instObj C s.heap.objs.size) rfl
    rwa [Heap.size_push] at this
  have e3 : (s.heap.push PySem.W.emptyDict).Ns s.heap.objs.size (fun _ => none) := ⟨PySem.W.emptyDict, #[], _, e1, rfl, (fun e he => absurd he (by simp)), fun _ => rfl⟩
  have I1 := I.laid (a := s.heap.objs.size) (o := .own (s.heap.objs.size + 1)) (h' := s.heap.push PySem.W.emptyDict) (t' := s.toks) (fun b u q => Heap.get?_push_of_some _ q) (Nat.le_refl _) ⟨_, e1⟩
  refine I1.laid (a := s.heap.objs.size + 1) (o := .ins C s.heap.objs.size []) (t' := s.toks) (fun b u q => Heap.get?_push_of_some _ q) (Nat.le_of_eq (Heap.size_push _ _)) ?_
  have ne : s.heap.objs.size ≠ s.heap.objs.size + 1 := Nat.ne_of_lt (Nat.lt_succ_self _)
  refine ⟨by rw [upd_ne ne, upd_same], Nat.zero_le _, ne, e2, fun _ => none, (Heap.Ns1.of_empty e3).at fun o q => Heap.get?_push_of_some _ q, fun _ => True.intro, fun y hy => absurd rfl hy⟩


end



section
variable {X : Cx} {o e value : Expr} {f : Str} {pos pos' tpos : Pos} {ta tv : TE}
end


section
variable {X : Cx} {pins : List (Addr × Obj)} {σ : St} {H : Hp} {s : Shared} {A : Around} {E : Value → Shared → Prop} {Q : Value → Shared → Prop} {c : Value} {b : Bool}

inductive TyOf (K : PySem.W.Frag) (H : Hp) : V → Value → Prop where
  | non : TyOf K H .non (.type "NoneType")
  | bl (x : Bool) : TyOf K H (.bl x) (.type "bool")
  | int (i : Int) : TyOf K H (.int i) (.type "int")
  | str (x : Str) : TyOf K H (.str x) (.type "str")
  | flt (x : UInt64) : TyOf K H (.flt x) (.type "float")
  | lst {a : Addr} {xs : List V} (e : H a = some (.lst xs)) : TyOf K H (.ref a) (.type "list")
  | frz {a : Addr} {o : Obj} {xs : List V} (e : H a = some (.frz o (.lst xs))) : TyOf K H (.ref a) (.type "list")
  | tup {a : Addr} {xs : List V} (e : H a = some (.tup xs)) : TyOf K H (.ref a) (.type "tuple")
  | dK {a : Addr} {kvs : List (Key × V)} (e : H a = some (.dK kvs)) : TyOf K H (.ref a) (.type "dict")
  | dT {a : Addr} {kvs : List (List Key × V)} (e : H a = some (.dT kvs)) : TyOf K H (.ref a) (.type "dict")
  | ins {a C dx : Addr} {fs : List (Str × V)} (e : H a = some (.ins C dx fs)) (cl : Cls K C) (ha : PySem.W.findIn K (.ref C) "__class__" = some (some (.builtin "object.__class__")))
      (hn : PySem.W.specialIn K (.builtin "object.__class__") "__get__" = some (some (.builtin "getset_descriptor.__get__"))) (htk : PySem.W.takesIn K (.builtin "object.__class__") = some true)
      (hm : PySem.W.mroIn K C (.type "object") = some true) : TyOf K H (.ref a) (.ref C)

end
end L2

namespace L2
open PySem PySem.Spec PyProof.Rows


structure Room (k : Nat) (A : Around) : Prop where
  hd : A.handled = none
  dp : A.depth + 3 * k + 5 < recursionLimit
  un : A.units + 16 * k + 200 < cLine
theorem Room.mono {j k : Nat} {A : Around} (r : Room k A) (h : j ≤ k) : Room j A := ⟨r.hd, by have := r.dp; omega, by have := r.un; omega⟩
theorem Room.deeper {k : Nat} {A : Around} (r : Room (k + 1) A) (env : Env) : Room k (A.deeper env) :=
  ⟨r.hd, by have := r.dp; show A.depth + 1 + 3 * k + 5 < _; omega, by have := r.un; show A.units + 3 + 16 * k + 200 < _; omega⟩
theorem Room.in1 {k : Nat} {A : Around} (r : Room (k + 1) A) : Room k A.in1 :=
  ⟨r.hd, by have := r.dp; show A.depth + 3 * k + 5 < _; omega, by have := r.un; show A.units + 1 + 16 * k + 200 < _; omega⟩
theorem Room.depth {k : Nat} {A : Around} (r : Room k A) : A.depth < recursionLimit := by have := r.dp; omega
theorem Room.units {k : Nat} {A : Around} (r : Room k A) : A.units + 64 < cLine := by have := r.un; omega
def tNil : TA := fun _ H Q => Q [] H
def tCons (ta : TE) (tr : TA) : TA := fun σ H Q => ta σ H fun x H1 => tr σ H1 fun xs H2 => Q (x :: xs) H2
section
variable {X : Cx} {e : Expr} {es : List Expr} {te : TE} {t : TA} {pos : Pos}
theorem pa_nil : PA X [] tNil := fun _ _ _ _ H Q I h => Calls.spliced_nil ⟨[], H, I, .nil, h⟩
theorem pa_cons (ha : PE X e te) (hr : PA X es t) (hs : starEach (e :: es) X.env = (false, eval e X.env) :: starEach es X.env := by rfl) : PA X (e :: es) (tCons te t) := by
  intro pos pins s σ H Q I h
  rw [hs]
  show wpAny _ _ (spliced ((false, eval e X.env) :: backTo pos (starEach es X.env))) _ _ s
  refine Calls.spliced_cons (thn (ha pins s σ H _ I h) fun u s1 ⟨x, H1, I1, r1, q1⟩ => ?_)
  exact thn (hr pos pins s1 σ H1 _ I1 q1) fun us s2 ⟨xs, H2, I2, r2, q2⟩ => ⟨x :: xs, H2, I2, .cons r1 r2, q2⟩


def tTup (t : TA) : TE := fun σ H Q => t σ H fun xs H1 => xs.length ≤ sizeLine ∧ ∀ p, H1 p = none → Q (.ref p) (upd H1 p (.tup xs))
def tLst (t : TA) : TE := fun σ H Q => t σ H fun xs H1 => xs.length ≤ sizeLine ∧ ∀ p, H1 p = none → Q (.ref p) (upd H1 p (.lst xs))
theorem pe_tup {x1} (h : PA X es t) : PE X (.Tuple es x1 pos) (tTup t) := by
  intro pins s σ H Q I hq
  refine wpAny_Tuple_spliced (thn (h pos pins s σ H _ I hq) fun us s1 ⟨xs, H1, I1, r, z, q⟩ => ⟨by rw [← r.length]; exact z, ?_⟩)
  have hf : H1 s1.heap.objs.size = none := I1.hok.fresh (Nat.le_refl _)
  refine ⟨.ref s1.heap.objs.size, upd H1 s1.heap.objs.size (.tup xs), I1.laid (t' := s1.toks) (fun b u e => Heap.get?_push_of_some _ e) (Nat.le_refl _) ?_, rfl, q _ hf⟩
  exact ⟨z, us, r, ⟨_, Heap.get?_push_size _ rfl, rfl, _, rfl⟩⟩
theorem pe_lst (h : PA X es t) : PE X (.List es pos) (tLst t) := by
  intro pins s σ H Q I hq
  refine wpAny_List_spliced (thn (h pos pins s σ H _ I hq) fun us s1 ⟨xs, H1, I1, r, z, q⟩ => ⟨by rw [← r.length]; exact z, ?_⟩)
  have hf : H1 s1.heap.objs.size = none := I1.hok.fresh (Nat.le_refl _)
  refine ⟨.ref s1.heap.objs.size, upd H1 s1.heap.objs.size (.lst xs), I1.laid (t' := s1.toks) (fun b u e => Heap.get?_push_of_some _ e) (Nat.le_refl _) ?_, rfl, q _ hf⟩
  exact ⟨z, us, 0, r, Heap.get?_push_size _ rfl⟩
end



abbrev Sp := List V → Hp → VK → XK → Prop

abbrev CXT := List Env → Hp → Shared → XK → Value → Shared → Prop


structure Env0 (P : Program) (w : World) (K : PySem.W.Frag) (mg : Str → Option Value) (base : Heap) (A : Around) (outer : List Env) (s : Shared) (H : Hp) : Prop where
  frames : A.frames = some outer
  mod : Mod K mg base
  bs : ∀ b o, base.get? b = some o → s.heap.get? b = some o ∧ H b = none
  bsz : base.objs.size ≤ s.heap.objs.size
  funs : s.heap.FunFrames base outer
  frf : ∀ b ∈ frs outer, H b = none
  hok : HOk P w H s.heap
  bare : AllBare s.gens

def CE (outer : List Env) (P : Program) (w : World) (H : Hp) (s : Shared) (Q : VK) (u : Value) (s' : Shared) : Prop :=
  ∃ v H', s'.os = s.os ∧ AllBare s'.gens ∧ Un (frs outer) [] H H' s.heap s'.heap ∧ HOk P w H' s'.heap ∧ RelV v u ∧ Q v H'
def CR (CX : CXT) (outer : List Env) (P : Program) (w : World) (H : Hp) (s : Shared) (Q : VK) (E : XK) (r : Result) (s' : Shared) : Prop :=
  match r with
  | .ok (.ret u) => CE outer P w H s Q u s'
  | .ok _ => False
  | .error e => CX outer H s E e s'
structure FnOk (P : Program) (w : World) (K : PySem.W.Frag) (mg : Str → Option Value) (base : Heap) (CX : CXT) (k : Nat) (f : Addr) (fd : FuncData) (ps : List Str) (sp : Sp) : Prop where
  len : ∀ vs H Q E, sp vs H Q E → vs.length = ps.length
  run : ∀ (A : Around) (outer : List Env) (s : Shared) (H : Hp) (args : Args) (us : List Value) (vs : List V) (Q : VK) (E : XK), Room k A → Env0 P w K mg base A outer s H → BindsTo s fd args (ps.zip us) → Vals vs us → sp vs H Q E →
    codeAny (model P w) A (.call (.ref f) args) (CR CX outer P w H s Q E) s
theorem FnOk.mono {P : Program} {w : World} {K : PySem.W.Frag} {mg : Str → Option Value} {base : Heap} {CX : CXT} {j k : Nat} {f : Addr} {fd : FuncData} {ps : List Str} {sp : Sp} (F : FnOk P w K mg base CX j f fd ps sp) (h : j ≤ k) :
    FnOk P w K mg base CX k f fd ps sp := ⟨F.len, fun A outer s H args us vs Q E hr => F.run A outer s H args us vs Q E (hr.mono h)⟩

theorem FnOk.imp {P : Program} {w : World} {K : PySem.W.Frag} {mg : Str → Option Value} {base : Heap} {CX : CXT} {k : Nat} {f : Addr} {fd : FuncData} {ps : List Str} {sp sp' : Sp} (F : FnOk P w K mg base CX k f fd ps sp)
    (h : ∀ vs H Q E, sp' vs H Q E → sp vs H Q E) : FnOk P w K mg base CX k f fd ps sp' :=
  ⟨fun vs H Q E q => F.len vs H Q E (h _ _ _ _ q), fun A outer s H args us vs Q E hr he hb hv hs => F.run A outer s H args us vs Q E hr he hb hv (h _ _ _ _ hs)⟩

theorem Env0.in1 {P : Program} {w : World} {K : PySem.W.Frag} {mg : Str → Option Value} {base : Heap} {A : Around} {outer : List Env} {s : Shared} {H : Hp} (e : Env0 P w K mg base A outer s H) :
    Env0 P w K mg base A.in1 outer s H := ⟨e.frames, e.mod, e.bs, e.bsz, e.funs, e.frf, e.hok, e.bare⟩

section
variable {X : Cx} {pins : List (Addr × Obj)} {σ : St} {H : Hp} {s s' : Shared}

theorem Inv.env0 (I : Inv X pins σ H s) : Env0 X.prog X.w X.K X.mg X.base X.A X.stack s H :=
  ⟨I.ok.frames, I.ok.mod, I.bs, Nat.le_trans I.ok.bsz I.sz, I.stack, I.stkFree, I.hok, I.bare⟩

theorem Inv.after {Q : VK} {u : Value} (I : Inv X pins σ H s) (h : CE X.stack X.prog X.w H s Q u s') : EP X pins σ Q u s' := by
  obtain ⟨v, H', os, bare, un, hok, r, q⟩ := h
  obtain ⟨hh, g, d, t, os'⟩ := s'
  obtain rfl : os' = s.os := os
  exact ⟨v, H', I.call (h' := hh) (g' := g) (d' := d) (t' := t) (ch := []) un hok bare (fun b z => absurd z (by simp)), r, q⟩
end



def tCall (sp : Sp) (dvs : List V) (E : XK) (t : TA) : TE := fun σ H Q => t σ H fun vs H1 => sp (vs ++ dvs) H1 Q E

def Binds (K : PySem.W.Frag) (fd : FuncData) (ps : List Str) (ds : List Value) : Prop :=
  ∀ (s : Shared) (us : List Value), K.In s.heap → (us ++ ds).length = ps.length → BindsTo s fd ⟨us, []⟩ (ps.zip (us ++ ds))

theorem Binds.all {K : PySem.W.Frag} {fd : FuncData} {ps : List Str} (h : ∀ us : List Value, us.length = ps.length → bindArgs fd ⟨us, []⟩ = pure (ps.zip us)) : Binds K fd ps [] := fun s us _ hl => by
  rw [List.append_nil] at hl ⊢
  exact .of_eq (h us hl)


def Passes (CX : CXT) (X : Cx) (E : XK) : Prop := ∀ (pins : List (Addr × Obj)) (σ : St) (H : Hp) (s : Shared) (e : Value) (s' : Shared), Inv X pins σ H s → CX X.stack H s E e s' → X.xe e s'

section
variable {X : Cx} {CX : CXT} {k : Nat} {f C : Addr} {fd : FuncData} {ps : List Str} {sp : Sp} {dvs : List V} {ds : List Value} {E : XK} {x m : Str} {p pos apos : Pos} {e o : Expr} {es : List Expr} {ta : TE} {t : TA}


theorem run_fn {pins : List (Addr × Obj)} {σ : St} {H : Hp} {s : Shared} {Q : VK} {us : List Value} {vs : List V} (F : FnOk X.prog X.w X.K X.mg X.base CX k f fd ps sp) (hr : Room k X.A) (hb : Binds X.K fd ps ds) (hd : Vals dvs ds) (hx : Passes CX X E)
    (I : Inv X pins σ H s) (r : Vals vs us) (h : sp (vs ++ dvs) H Q E) : wpAny (model X.prog X.w) X.A (call (.ref f) us) (EP X pins σ Q) X.xe s := by
  have r2 : Vals (vs ++ dvs) (us ++ ds) := r.append hd
  have hl : (us ++ ds).length = ps.length := by rw [← r2.length]; exact F.len _ _ _ _ h
  refine wpAny_call (codeAny_mono (F.run X.A X.stack s H ⟨us, []⟩ (us ++ ds) (vs ++ dvs) Q E hr I.env0 (hb s us I.kIn hl) r2 h) fun r s' hq => ?_)
  cases r with
  | error e => exact hx pins σ H s e s' I hq
  | ok fl =>
    cases fl with
    | ret u => exact I.after hq
    | next => exact False.elim hq
    | brk => exact False.elim hq
    | cont => exact False.elim hq

theorem pe_call (F : FnOk X.prog X.w X.K X.mg X.base CX k f fd ps sp) (hr : Room k X.A) (hg : Gl X x) (hm : X.mg x = some (.ref f)) (hk : PySem.W.keepIn X.K (.ref f) = true) (hb : Binds X.K fd ps ds) (hd : Vals dvs ds) (hx : Passes CX X E)
    (ha : PA X (e :: es) t) (hdb : (x == ("__debug__" : Str)) = false := by decide) (he : starEach (e :: es) X.env = (false, eval e X.env) :: starEach es X.env := by rfl) (hpl : (backTo pos (starEach es X.env)).any (·.1) = false := by rfl) :
    PE X (.Call (.Name x p) (e :: es) [] pos) (tCall sp dvs E t) := by
  intro pins s σ H Q I h
  refine wpAny_Call_Name_kw (ld_glob I hg hm ?_ hdb)
  refine PySem.W.callWith_K (h₀ := X.base) I.ok.mod.kin hk (thn (ha pos pins s σ H _ I h) fun us s1 ⟨vs, H1, I1, r, q⟩ => ⟨I1.kIn, ?_⟩) he hpl
  exact run_fn F hr hb hd hx I1 r q
theorem pe_call0 (F : FnOk X.prog X.w X.K X.mg X.base CX k f fd ps sp) (hr : Room k X.A) (hg : Gl X x) (hm : X.mg x = some (.ref f)) (hk : PySem.W.keepIn X.K (.ref f) = true) (hb : Binds X.K fd ps ds) (hd : Vals dvs ds) (hx : Passes CX X E)
    (hdb : (x == ("__debug__" : Str)) = false := by decide) : PE X (.Call (.Name x p) [] [] pos) (tCall sp dvs E tNil) := by
  intro pins s σ H Q I h
  refine wpAny_Call_Name_kw (ld_glob I hg hm ?_ hdb)
  exact PySem.W.callWith_K0 I.kIn hk (run_fn (us := []) F hr hb hd hx I .nil h)


structure Mk (K : PySem.W.Frag) (C f : Addr) : Prop where
  makes : PySem.W.makesIn K C = true
  init : PySem.W.findIn K (.ref C) "__init__" = some (some (.ref f))
  fn : PySem.W.isFn K (.ref f) = true
  kp : PySem.W.keepIn K (.ref C) = true

end



section
variable {X : Cx} {CX : CXT} {k : Nat} {f C : Addr} {fd : FuncData} {ps ks : List Str} {sp : Sp} {E : XK} {x m : Str} {p pos apos kpos : Pos} {e o : Expr} {es : List Expr} {kws : List Keyword} {te ta : TE} {t tk : TA} {nm : Option Str}
structure KBinds (K : PySem.W.Frag) (fd : FuncData) (ps ks : List Str) (g : List Value → List Value → List Value) (gV : List V → List V → List V) : Prop where
  to : ∀ (s : Shared) (us ws : List Value), K.In s.heap → (g us ws).length = ps.length → BindsTo s fd ⟨us, ks.zip ws⟩ (ps.zip (g us ws))
  rel : ∀ {vs : List V} {us : List Value} {zs : List V} {ws : List Value}, Vals vs us → Vals zs ws → Vals (gV vs zs) (g us ws)
variable {g : List Value → List Value → List Value} {gV : List V → List V → List V}
end



structure FnScope (N P : List Str) (sc : Scope) : Prop where
  kind : sc.kind = .function
  co : sc.isCoroutine = false
  gen : sc.isGenerator = false
  nd : N.Nodup
  pre : N.take P.length = P
  par : ∀ x ∈ P, sc.names.lookup x = some .local ∨ sc.names.lookup x = some .cell
  nofree : ∀ y ∈ sc.names, y.2 ≠ .free

theorem bindL_out {kindOf : Str → Option NameKind} {x : Str} : ∀ {binds : List (Str × Value)} {m : Str → Option Value}, (∀ v, (x, v) ∉ binds) → bindL kindOf binds m x = m x
  | [], _, _ => rfl
  | (n, v) :: r, m, h => by
    unfold bindL
    rw [bindL_out fun w hw => h w (List.mem_cons_of_mem _ hw)]
    split
    · have : x ≠ n := by rintro rfl; exact h v List.mem_cons_self
      simp [this]
    · rfl
theorem bindC_out {kindOf : Str → Option NameKind} {x : Str} : ∀ {binds : List (Str × Value)} {m : Str → Option Value}, (∀ v, (x, v) ∉ binds) → bindC kindOf binds m x = m x
  | [], _, _ => rfl
  | (n, v) :: r, m, h => by
    unfold bindC
    rw [bindC_out fun w hw => h w (List.mem_cons_of_mem _ hw)]
    split
    · rfl
    · have : x ≠ n := by rintro rfl; exact h v List.mem_cons_self
      simp [this]
theorem bindL_get {kindOf : Str → Option NameKind} {x : Str} {v : Value} : ∀ {P : List Str} {vs : List Value} {i : Nat} {m : Str → Option Value}, P.Nodup → P[i]? = some x → vs[i]? = some v → kindOf x = some .local →
    bindL kindOf (P.zip vs) m x = some v
  | [], _, _, _, _, h, _, _ => by simp at h
  | _ :: _, [], _, _, _, _, h, _ => by simp at h
  | p :: P, w :: vs, 0, m, nd, h1, h2, hk => by
    simp at h1 h2; subst h1; subst h2
    show bindL kindOf ((p, w) :: P.zip vs) m p = _
    unfold bindL
    rw [bindL_out fun v hv => (List.nodup_cons.mp nd).1 (List.of_mem_zip hv).1, if_pos hk]
    simp
  | p :: P, w :: vs, i + 1, m, nd, h1, h2, hk => by
    show bindL kindOf ((p, w) :: P.zip vs) m x = _
    unfold bindL
    exact bindL_get (i := i) (List.nodup_cons.mp nd).2 (by simpa using h1) (by simpa using h2) hk
theorem bindC_get {kindOf : Str → Option NameKind} {x : Str} {v : Value} : ∀ {P : List Str} {vs : List Value} {i : Nat} {m : Str → Option Value}, P.Nodup → P[i]? = some x → vs[i]? = some v → kindOf x ≠ some .local →
    bindC kindOf (P.zip vs) m x = some v
  | [], _, _, _, _, h, _, _ => by simp at h
  | _ :: _, [], _, _, _, _, h, _ => by simp at h
  | p :: P, w :: vs, 0, m, nd, h1, h2, hk => by
    simp at h1 h2; subst h1; subst h2
    show bindC kindOf ((p, w) :: P.zip vs) m p = _
    unfold bindC
    rw [bindC_out fun v hv => (List.nodup_cons.mp nd).1 (List.of_mem_zip hv).1, if_neg hk]
    simp
  | p :: P, w :: vs, i + 1, m, nd, h1, h2, hk => by
    show bindC kindOf ((p, w) :: P.zip vs) m x = _
    unfold bindC
    exact bindC_get (i := i) (List.nodup_cons.mp nd).2 (by simpa using h1) (by simpa using h2) hk


def start (N : List Str) (vs : List V) : St := vs.map some ++ List.replicate (N.length - vs.length) none


def cxOf (CX : CXT) (P : Program) (w : World) (K : PySem.W.Frag) (mg : Str → Option Value) (base : Heap) (N : List Str) (qual : Str) (scope : Scope) (f : Addr) (cd : Value) (A : Around) (outer : List Env) (s : Shared) (H : Hp) (E : XK) : Cx where
  prog := P
  w := w
  K := K
  mg := mg
  base := base
  A := A.deeper (envOfC qual scope s.heap.objs.size f cd)
  N := N
  s_0 := s
  H_0 := H
  env := envOfC qual scope s.heap.objs.size f cd
  outer := outer
  stack := envOfC qual scope s.heap.objs.size f cd :: outer
  ex := []
  calm := true
  fn := fun _ => true
  pn := []
  xe := fun e s' => wpAny (model P w) (A.deeper (envOfC qual scope s.heap.objs.size f cd)) (leaving (envOfC qual scope s.heap.objs.size f cd) e) (fun _ s'' => CX outer H s E e s'') (fun e' s'' => CX outer H s E e' s'') s'

theorem cell_has {sc : Scope} {n : Nat} {x : Str} (h : sc.names.lookup x = some .cell) : ∃ c, (cellsFrom n sc.names []).lookup x = some c := by
  have q := PySem.W.cellsFrom_some sc.names n [] (.inl h)
  exact Option.isSome_iff_exists.mp q

theorem inv_start {CX : CXT} {P : Program} {w : World} {K : PySem.W.Frag} {mg : Str → Option Value} {base : Heap} {N ps : List Str} {qual : Str} {scope : Scope} {f : Addr} {cd : Value} {A : Around} {outer : List Env} {s s1 : Shared} {H : Hp} {E : XK} {us : List Value} {vs : List V}
    (S : FnScope N ps scope) (hd : A.handled = none) (e0 : Env0 P w K mg base A outer s H) (hl : vs.length = ps.length) (r : Vals vs us)
    (x : InCallC s s.heap.objs.size (bindL (envOfC qual scope s.heap.objs.size f cd).kindOf (ps.zip us) fun _ => none) (cellsFrom (s.heap.objs.size + 1) scope.names []) (bindC (envOfC qual scope s.heap.objs.size f cd).kindOf (ps.zip us) fun _ => none) s1) :
    Inv (cxOf CX P w K mg base N qual scope f cd A outer s H E) [] (start N vs) H s1 := by
  have hpl : ps.length ≤ N.length := by have := congrArg List.length S.pre; rw [List.length_take] at this; omega
  obtain ⟨h1, tk, rfl, hk⟩ := x.done
  have noA : ∀ b : Addr, b ∉ (cxOf CX P w K mg base N qual scope f cd A outer s H E).ex := fun b z => absurd (show b ∈ ([] : List Addr) from z) (by simp)
  refine ⟨⟨e0.mod, S.kind, rfl, rfl, Nat.le_refl _, fun y z c h1 h2 => ?_, fun y hy => ?_, fun y c _ h => ?_, fun _ => hd, Around.frames_deeper e0.frames, .inr ⟨rfl, rfl⟩, fun b z => absurd z (noA b), e0.bs, e0.bsz, fun b _ _ => noA b, fun b z => absurd z (noA b), e0.funs, e0.frf⟩,
    rfl, e0.bare, Un.kept hk, ⟨_, x.toInCall.ns, fun i y v h1 h2 h3 => ?_⟩, fun y c h => ⟨_, x.cell y c h⟩, e0.hok.fresh (Nat.le_refl _), fun y c h => ?_, fun p hp => absurd (show p ∈ ([] : List (Addr × Obj)) from hp) (by simp), e0.hok.kept hk, ?_⟩
  · exact name_of_addr x.apart (PySem.mem_of_lookup h1) (PySem.mem_of_lookup h2)
  · have hy : scope.names.lookup y = some .cell ∨ scope.names.lookup y = some .free := hy
    rcases hy with hy | hy
    · exact cell_has hy
    · exact absurd rfl (S.nofree _ (PySem.mem_of_lookup hy))
  · exact Nat.le_of_lt (x.above y c (PySem.mem_of_lookup h))
  · have hi : i < vs.length := by
      unfold start at h2
      by_cases hi : i < vs.length
      · exact hi
      · rw [List.getElem?_append_right (by simpa using hi)] at h2
        rw [List.getElem?_replicate] at h2
        split at h2 <;> cases h2
    have ha : vs[i]? = some v := by
      unfold start at h2
      rw [List.getElem?_append_left (by simpa using hi), List.getElem?_map] at h2
      cases e : vs[i]? with
      | none => rw [e] at h2; cases h2
      | some a => rw [e] at h2; cases h2; rfl
    obtain ⟨u, hu, rv⟩ := r.get ha
    have hp : ps[i]? = some y := by
      rw [← S.pre, List.getElem?_take_of_lt (by omega)]; exact h1
    have ndP : ps.Nodup := by rw [← S.pre]; exact S.nd.sublist (List.take_sublist _ _)
    refine ⟨u, rv, ?_⟩
    rcases S.par y (List.mem_of_getElem? hp) with k | k
    · exact .inl ⟨k, bindL_get ndP hp hu k⟩
    · obtain ⟨c, e⟩ := cell_has (n := s.heap.objs.size + 1) k
      refine .inr ⟨.inl k, c, e, ?_⟩
      have q := x.cell y c e
      rw [bindC_get ndP hp hu (by show scope.names.lookup y ≠ _; rw [k]; decide)] at q
      exact q
  · exact e0.hok.fresh (Nat.le_of_lt (x.above y c (PySem.mem_of_lookup h)))
  · unfold start
    show _ = N.length
    rw [List.length_append, List.length_map, List.length_replicate]
    omega


theorem fn_of {CX : CXT} {P : Program} {w : World} {K : PySem.W.Frag} {mg : Str → Option Value} {base : Heap} {k : Nat} {f : Addr} {name qual : Str} {params : Arguments} {body : List Stmt} {scope : Scope} {dV kV doc pm cdv ct oc : Value} {an od : Option Addr}
    {osl : Array (Option Value)} {N ps : List Str} {sp : Sp} (lk : K.lookup f = some ⟨oc, od, .func (PySem.W.fnOf name qual params body scope dV kV doc pm an cdv ct), osl⟩) (hcd : PySem.W.codeIn K cdv qual = true) (S : FnScope N ps scope)
    (len : ∀ vs H Q E, sp vs H Q E → vs.length = ps.length)
    (hbody : ∀ (A : Around) (outer : List Env) (s : Shared) (H : Hp) (vs : List V) (Q : VK) (E : XK), Room k (A.deeper (envOfC qual scope s.heap.objs.size f cdv)) → sp vs H Q E →
      ∃ t, PSs (cxOf CX P w K mg base N qual scope f cdv A outer s H E) body t ∧ t { nx := fun _ H' => Q .non H', rt := Q } (start N vs) H) :
    FnOk P w K mg base CX (k + 1) f (PySem.W.fnOf name qual params body scope dV kV doc pm an cdv ct) ps sp := by
  refine ⟨len, fun A outer s H args us vs Q E hr e0 hb r hsp => ?_⟩
  have hl := len _ _ _ _ hsp
  have KX : K.In s.heap := e0.mod.kin.keeps fun b o e => (e0.bs b o e).1
  have lim : s.heap.NoLimit := e0.mod.nolimit.keeps fun b o e => (e0.bs b o e).1
  have hkind : ∀ y ∈ ps.zip us, scope.names.lookup y.1 = some .local ∨ (scope.names.lookup y.1 = some .cell ∧ ((cellsFrom (s.heap.objs.size + 1) scope.names []).lookup y.1).isSome = true) := fun ⟨n, v⟩ hy => by
    rcases S.par n (List.of_mem_zip hy).1 with q | q
    · exact .inl q
    · exact .inr ⟨q, PySem.W.cellsFrom_some _ _ _ (.inl q)⟩
  refine codeAny_call_function hr.depth (KX _ _ lk) rfl S.co S.gen rfl (PySem.W.codeRec_of KX hcd) (hb _ _ _ _ ?_)
  refine wpAny_newFunctionEnv_cells S.kind hkind fun env he s1 x => ?_
  subst he
  refine ⟨lim.keeps x.toInCall.keep, codeAny_func ?_⟩
  obtain ⟨t, ht, hq⟩ := hbody A outer s H vs Q E (hr.deeper _) hsp
  have I : Inv (cxOf CX P w K mg base N qual scope f cdv A outer s H E) [] (start N vs) H s1 := inv_start S hr.hd e0 hl r x
  refine wpAny_mono (ht [] s1 (start N vs) H _ I hq) (fun fl s' hs => ?_) fun e s' hs => hs
  have fin : ∀ {σ' : St} {H' : Hp} {v : V} {u : Value}, Inv (cxOf CX P w K mg base N qual scope f cdv A outer s H E) [] σ' H' s' → RelV v u → Q v H' → CE outer P w H s Q u s' :=
    fun {σ' H' v u} J rv q => ⟨v, H', J.os, J.bare, J.base, J.hok, rv, q⟩
  cases fl with
  | ret u =>
    obtain ⟨v, σ', H', J, rv, q⟩ := hs
    exact fin J rv q
  | next =>
    obtain ⟨σ', H', J, q⟩ := hs
    exact fin (v := V.non) (u := Value.none) J rfl q
  | brk =>
    obtain ⟨_, _, _, q⟩ := hs
    exact False.elim q
  | cont =>
    obtain ⟨_, _, _, q⟩ := hs
    exact False.elim q
end L2

namespace L2
open PySem PySem.Spec PyProof.Rows
section
variable {X : Cx} {x : Str} {p pos : Pos} {e : Expr} {es : List Expr} {t : TA} {id T : String} {r : List V → Hp → VK → Prop}

def tCB (r : List V → Hp → VK → Prop) (t : TA) : TE := fun σ H Q => t σ H fun vs H1 => r vs H1 Q

theorem pe_callB (hc : CallR X (.builtin id) r) (hg : Gl X x) (hm : X.mg x = none) (hv : bootBuiltins x = some (.builtin id)) (ha : PA X (e :: es) t) (hn : x ≠ "__name__" := by decide) (hdb : (x == ("__debug__" : Str)) = false := by decide)
    (he : starEach (e :: es) X.env = (false, eval e X.env) :: starEach es X.env := by rfl) (hpl : (backTo pos (starEach es X.env)).any (·.1) = false := by rfl) : PE X (.Call (.Name x p) (e :: es) [] pos) (tCB r t) := by
  intro pins s σ H Q I h
  refine wpAny_Call_Name_kw (ld_blt I hg hm hv ?_ hn hdb)
  exact PyProof.Rows.callWith_builtin1 (thn (ha pos pins s σ H _ I h) fun us s1 ⟨vs, H1, I1, r1, q1⟩ => hc pins s1 σ H1 vs us Q I1 r1 q1) he hpl

theorem pe_callTy (hc : CallR X (.type T) r) (hg : Gl X x) (hm : X.mg x = none) (hv : bootBuiltins x = some (.type T)) (ha : PA X (e :: es) t) (hn : x ≠ "__name__" := by decide) (hdb : (x == ("__debug__" : Str)) = false := by decide)
    (he : starEach (e :: es) X.env = (false, eval e X.env) :: starEach es X.env := by rfl) (hpl : (backTo pos (starEach es X.env)).any (·.1) = false := by rfl) : PE X (.Call (.Name x p) (e :: es) [] pos) (tCB r t) := by
  intro pins s σ H Q I h
  refine wpAny_Call_Name_kw (ld_blt I hg hm hv ?_ hn hdb)
  exact PyProof.Rows.callWith_type1 (thn (ha pos pins s σ H _ I h) fun us s1 ⟨vs, H1, I1, r1, q1⟩ => hc pins s1 σ H1 vs us Q I1 r1 q1) he hpl

end
end L2

namespace HT
open PySem PyProof.Rows


def lexLt : List Int → List Int → Bool
  | [], [] => false
  | [], _ :: _ => true
  | _ :: _, [] => false
  | x :: xs, y :: ys => if x = y then lexLt xs ys else decide (x < y)
section
open PySem.SeqAt
open PySem.AutoSeq1 (wpAny_loadPart')
open PySem.MeetsSeq PySem.MeetsSeq2 PySem.MeetsSeq3

end

section
variable {prog : Program} {w : World} {A : Around} {E : Value → Shared → Prop} {s : Shared}

end
end HT

namespace L2
open PySem PySem.Spec PyProof.Rows


abbrev TO := St → Hp → (Option Int → Hp → Prop) → Prop

section
variable {X : Cx} {e : Expr} {te : TE} {lo hi : Option Expr} {tl th : TO} {pos p2 : Pos}

def SlR (X : Cx) (r : V → Option Int → Option Int → Hp → VK → Prop) : Prop :=
  ∀ (pins : List (Addr × Obj)) (s : Shared) (σ : St) (H : Hp) (x : V) (v vl vu : Value) (lo hi : Option Int) (sl : Addr) (Q : VK), Inv X pins σ H s → RelV x v → s.heap.IsSliceOf sl vl vu .none → IsPart vl lo → IsPart vu hi → r x lo hi H Q →
    ∃ T id, typeLookup (.type T) "__getitem__" = pure (some (.builtin id)) ∧ s.TypeIs v T ∧ wpAny (model X.prog X.w) X.A (getItem v (.ref sl)) (EP X pins σ Q) X.xe s
theorem SlR.or {r r' : V → Option Int → Option Int → Hp → VK → Prop} (h : SlR X r) (h' : SlR X r') : SlR X (fun x lo hi H Q => r x lo hi H Q ∨ r' x lo hi H Q) := by
  intro pins s σ H x v vl vu lo hi sl Q I rx hs pl pu q
  rcases q with q | q
  · exact h pins s σ H x v vl vu lo hi sl Q I rx hs pl pu q
  · exact h' pins s σ H x v vl vu lo hi sl Q I rx hs pl pu q
end
end L2

namespace L2
open PySem PySem.Spec PyProof.Rows



def ixN (n : Nat) (i : Int) : Option Nat := if 0 ≤ i then (if i < n then some i.toNat else none) else if -(n : Int) ≤ i then some (i + n).toNat else none
def atI {α : Type} (xs : List α) (i : Int) : Option α := (ixN xs.length i).bind fun j => xs[j]?
theorem ixN_seq {n : Nat} {i : Int} {j : Nat} (h : ixN n i = some j) : seqIndex? i n = some j ∧ j < n ∧ -(n : Int) ≤ i ∧ i < n := by
  unfold ixN at h
  by_cases h0 : 0 ≤ i
  · rw [if_pos h0] at h
    by_cases h1 : i < n
    · rw [if_pos h1] at h
      have e : i.toNat = j := Option.some.inj h
      exact ⟨by rw [seqIndex_of h0 h1, e], by omega, by omega, h1⟩
    · rw [if_neg h1] at h; cases h
  · rw [if_neg h0] at h
    by_cases h1 : -(n : Int) ≤ i
    · rw [if_pos h1] at h
      have e : (i + n).toNat = j := Option.some.inj h
      exact ⟨by rw [seqIndex_neg (by omega) h1, e], by omega, h1, by omega⟩
    · rw [if_neg h1] at h; cases h
theorem atI_get {α : Type} {xs : List α} {i : Int} {v : α} (h : atI xs i = some v) : ∃ j, seqIndex? i xs.length = some j ∧ xs[j]? = some v ∧ j < xs.length ∧ -(xs.length : Int) ≤ i ∧ i < xs.length := by
  unfold atI at h
  cases e : ixN xs.length i with
  | none => rw [e] at h; cases h
  | some j =>
    rw [e] at h
    obtain ⟨h1, h2, h3, h4⟩ := ixN_seq e
    exact ⟨j, h1, h, h2, h3, h4⟩
theorem atI_nat {α : Type} {xs : List α} {j : Nat} {v : α} (h : xs[j]? = some v) : atI xs (j : Int) = some v := by
  have hj : j < xs.length := (List.getElem?_eq_some_iff.mp h).1
  have e : ixN xs.length (j : Int) = some j := by
    unfold ixN
    rw [if_pos (by omega), if_pos (by omega)]; simp
  unfold atI; rw [e]; exact h
def PlainIx (b : Expr) : Prop := ∀ o i, subscripted b false o i = operate [o, i] (getItem o i)

def IxR (X : Cx) (r : R2) : Prop :=
  ∀ (value slice : Expr) (pins : List (Addr × Obj)) (s : Shared) (σ : St) (H : Hp) (x y : V) (v u : Value) (Q : VK), Inv X pins σ H s → RelV x v → RelV y u → r x y H Q →
    subscripted slice false v u = operate [v, u] (getItem v u) → wpAny (model X.prog X.w) X.A (subscriptTail value slice v u) (EP X pins σ Q) X.xe s

def MtR (X : Cx) (id : String) (r : V → List V → Hp → VK → Prop) : Prop :=
  ∀ (pins : List (Addr × Obj)) (s : Shared) (σ : St) (H : Hp) (x : V) (xs : List V) (v : Value) (us : List Value) (Q : VK), Inv X pins σ H s → RelV x v → Vals xs us → r x xs H Q →
    wpAny (model X.prog X.w) X.A (call (.builtin id) (v :: us)) (EP X pins σ Q) X.xe s
section
variable {X : Cx} {a b : Expr} {ta tb : TE} {pos : Pos}
theorem IxR.or {r r' : R2} (h : IxR X r) (h' : IxR X r') : IxR X (fun x y H Q => r x y H Q ∨ r' x y H Q) := by
  intro value slice pins s σ H x y v u Q I rx ry q hs
  rcases q with q | q
  · exact h value slice pins s σ H x y v u Q I rx ry q hs
  · exact h' value slice pins s σ H x y v u Q I rx ry q hs
theorem MtR.or {id : String} {r r' : V → List V → Hp → VK → Prop} (h : MtR X id r) (h' : MtR X id r') : MtR X id (fun x xs H Q => r x xs H Q ∨ r' x xs H Q) := by
  intro pins s σ H x xs v us Q I rx rs q
  rcases q with q | q
  · exact h pins s σ H x xs v us Q I rx rs q
  · exact h' pins s σ H x xs v us Q I rx rs q

theorem pe_ix {r : R2} (hr : IxR X r) (ha : PE X a ta) (hb : PE X b tb) (hs : PlainIx b) : PE X (.Subscript a b pos) (tOp r ta tb) := by
  intro pins s σ H Q I h
  exact Subscript_ (binT ha hb I h fun v u s2 x y H2 I2 rx ry q => hr a b pins s2 σ H2 x y v u Q I2 rx ry q (hs _ _))

def rIxL (K : PySem.W.Frag) : R2 := fun x y H Q => ∃ p xs i v, x = .ref p ∧ y = .int i ∧ SqL K H p xs ∧ atI xs i = some v ∧ Q v H
def rIxT (K : PySem.W.Frag) : R2 := fun x y H Q => ∃ p xs i v, x = .ref p ∧ y = .int i ∧ SqT K H p xs ∧ atI xs i = some v ∧ Q v H
def rIxS : R2 := fun x y H Q => ∃ z i c, x = .str z ∧ y = .int i ∧ z.length ≤ sizeLine ∧ atI z.cps.toList i = some c ∧ Q (.str ⟨#[c]⟩) H
theorem ix_list : IxR X (rIxL X.K) := by
  intro value slice pins s σ H x y v u Q I rx ry h hs
  obtain ⟨p, xs, i, z, rfl, rfl, hq, he, q⟩ := h
  cases rx
  obtain ⟨t, rfl⟩ := ry
  obtain ⟨its, r, pl, hz⟩ := I.list hq
  obtain ⟨j, h1, h2, h3, h4, h5⟩ := atI_get he
  obtain ⟨w, ew, rw'⟩ := r.get h2
  have hl := r.length
  have hn := line63
  have fin : EP X pins σ Q w s := ⟨z, H, I, rw', q⟩
  by_cases h0 : 0 ≤ i
  · have hj : i.toNat = j := by
      rw [seqIndex_of h0 h5] at h1
      exact Option.some.inj h1
    exact item_listR pl.isList h0 (by omega) (by rw [hj]; simpa using ew) fin hs
  · have hj : (i + (its.toArray.size : Int)).toNat = j := by
      rw [seqIndex_neg (by omega) h4] at h1
      rw [List.size_toArray, ← hl]
      exact Option.some.inj h1
    exact subscriptTail_builtinR (x := w) pl.isList.typeIs slot_list_getitem.lookup
      (wpAny_getItem_list_neg (Q := fun r s' => r = w ∧ EP X pins σ Q r s') pl.isList (by omega) (by rw [List.size_toArray] <;> omega) (by omega) (by rw [hj]; simpa using ew) ⟨rfl, fin⟩) hs
theorem ix_tup : IxR X (rIxT X.K) := by
  intro value slice pins s σ H x y v u Q I rx ry h hs
  obtain ⟨p, xs, i, z, rfl, rfl, hq, he, q⟩ := h
  cases rx
  obtain ⟨t, rfl⟩ := ry
  obtain ⟨its, r, pl, hz⟩ := I.tuple hq
  obtain ⟨j, h1, h2, h3, h4, h5⟩ := atI_get he
  obtain ⟨w, ew, rw'⟩ := r.get h2
  have hl := r.length
  have hn := line63
  have fin : EP X pins σ Q w s := ⟨z, H, I, rw', q⟩
  exact subscriptTail_builtinR (x := w) pl.typeIs slot_tuple_getitem.lookup
    (getItem_tuple (j := j) (Q := fun r s' => r = w ∧ EP X pins σ Q r s') pl (by omega) (by omega) (by rw [List.size_toArray, ← hl]; exact h1) (by simpa using ew) ⟨rfl, fin⟩) hs
theorem ix_str : IxR X rIxS := by
  intro value slice pins s σ H x y v u Q I rx ry h hs
  obtain ⟨z, i, c, rfl, rfl, hz, he, q⟩ := h
  obtain ⟨t, rfl⟩ := rx
  obtain ⟨t', rfl⟩ := ry
  obtain ⟨j, h1, h2, h3, h4, h5⟩ := atI_get he
  have hl : z.cps.toList.length = z.length := by simp [Str.length]
  rw [hl] at h1 h4 h5
  have hn := line63
  exact tail_any (typeIs_str s z t) slot_str_getitem.lookup (getItem_str (c := c) (by
    have e1 : decide (i < -(2 ^ 63 : Int)) = false := decide_eq_false (by omega)
    have e2 : decide (i ≥ 2 ^ 63) = false := decide_eq_false (by omega)
    rw [e1, e2, Bool.or_false]) (by rw [h1]; simpa using h2) ⟨.str ⟨#[c]⟩, H, I.tok _, ⟨_, rfl⟩, q⟩) hs

def rIx (K : PySem.W.Frag) : R2 := fun x y H Q => rIxL K x y H Q ∨ rIxT K x y H Q ∨ rIxS x y H Q
theorem ix_seq : IxR X (rIx X.K) := ix_list.or (ix_tup.or ix_str)



theorem Inv.lst {pins : List (Addr × Obj)} {σ : St} {H : Hp} {s : Shared} {p : Addr} {xs : List V} (I : Inv X pins σ H s) (h : H p = some (.lst xs)) :
    ∃ (its : List Value) (n : Nat), Vals xs its ∧ s.heap.get? p = some { cls := .type "list", data := .seq its.toArray n } ∧ xs.length ≤ sizeLine := by
  obtain ⟨z, its, n, r, e⟩ := I.hok p _ h
  exact ⟨its, n, r, e, z⟩

def eqV : V → V → Bool
  | .non, .non => true
  | .bl a, .bl b => a == b
  | .bl a, .int b => (if a then 1 else 0) == b
  | .int a, .bl b => a == (if b then 1 else 0)
  | .int a, .int b => a == b
  | .str a, .str b => a == b
  | _, _ => false
def inV (x : V) (xs : List V) : Bool := xs.any fun y => eqV y x

theorem call_len_seq : CallR X (.builtin "len") (fun xs H Q => ∃ p ys, xs = [.ref p] ∧ (SqL X.K H p ys ∨ SqT X.K H p ys) ∧ Q (.int ys.length) H) := by
  intro pins s σ H xs us Q I r h
  obtain ⟨p, ys, rfl, hq, q⟩ := h
  obtain ⟨u, rfl, rx⟩ := vals1 r
  cases rx
  have hn := line63
  rcases hq with hq | hq
  · obtain ⟨its, r', pl, hz⟩ := I.list hq
    have hlen := r'.length
    exact Calls.call_len_list pl.isList (by simp only [List.size_toArray] <;> omega) ⟨.int ys.length, H, I.tok _, ⟨s.toks + 1, by rw [List.size_toArray, hlen]⟩, q⟩
  · obtain ⟨its, r', pl, hz⟩ := I.tuple hq
    have hlen := r'.length
    exact len_tuple pl (by simp only [List.size_toArray] <;> omega) ⟨.int ys.length, H, I.tok _, ⟨s.toks + 1, by rw [List.size_toArray, hlen]⟩, q⟩
theorem CallR.or {f : Value} {r r' : List V → Hp → VK → Prop} (h : CallR X f r) (h' : CallR X f r') : CallR X f (fun xs H Q => r xs H Q ∨ r' xs H Q) := by
  intro pins s σ H xs us Q I rs q
  rcases q with q | q
  · exact h pins s σ H xs us Q I rs q
  · exact h' pins s σ H xs us Q I rs q
theorem call_tuple_of : CallR X (.type "tuple") (fun xs H Q => ∃ p ys, xs = [.ref p] ∧ ((SqL X.K H p ys ∧ ∀ l, H l = none → Q (.ref l) (upd H l (.tup ys))) ∨ (SqT X.K H p ys ∧ Q (.ref p) H))) := by
  intro pins s σ H xs us Q I r h
  obtain ⟨p, ys, rfl, h⟩ := h
  obtain ⟨u, rfl, rx⟩ := vals1 r
  cases rx
  rcases h with ⟨hq, q⟩ | ⟨hq, q⟩
  · obtain ⟨its, r', pl, hz⟩ := I.list hq
    have hlen := r'.length
    refine call_tuple_list pl.isList (fun h' kp => ?_) (by simp only [List.size_toArray] <;> omega)
    have I1 : Inv X pins σ H { s with heap := h' } := I.kept (t' := s.toks) kp
    have I2 : Inv X pins σ (upd H h'.objs.size (.tup ys)) { s with heap := h'.push { cls := .type "tuple", data := .seq its.toArray } } :=
      I1.laid (t' := s.toks) (fun b o e => Heap.get?_push_of_some _ e) (Nat.le_refl _) (show ObjOk X.prog X.w _ _ _ (.tup ys) from ⟨hz, its, r', IsTupN.new _ _⟩)
    exact ⟨.ref h'.objs.size, _, I2, rfl, q _ (I1.hok.fresh (Nat.le_refl _))⟩
  · obtain ⟨its, r', pl, hz⟩ := I.tuple hq
    exact call_tuple_same pl ⟨.ref p, H, I, rfl, q⟩



def tyV (K : PySem.W.Frag) (T : String) (x : V) (H : Hp) : Prop := match x with
  | .str _ => T = "str"
  | .int _ => T = "int"
  | .ref p => (T = "list" ∧ ∃ xs, SqL K H p xs) ∨ (T = "tuple" ∧ ((∃ o, K.lookup p = some o ∧ o.cls = .type "tuple" ∧ o.dict = none) ∨ ∃ xs, H p = some (.tup xs))) ∨
      (T = "dict" ∧ ((∃ kvs, H p = some (.dK kvs)) ∨ ∃ kvs, H p = some (.dT kvs))) ∨ (T = "set" ∧ ∃ S n, H p = some (.set S n))
  | _ => False
theorem tyV_is {pins : List (Addr × Obj)} {σ : St} {H : Hp} {s : Shared} {T : String} {x : V} {v : Value} (I : Inv X pins σ H s) (r : RelV x v) (ty : tyV X.K T x H) :
    s.TypeIs v T ∧ ∀ a, v = .ref a → ∃ ob, s.heap.get? a = some ob ∧ ob.dict = none := by
  cases x with
  | str z =>
    obtain ⟨t, rfl⟩ := r
    cases (show T = "str" from ty)
    exact ⟨typeIs_str s z t, fun _ e => nomatch e⟩
  | int i =>
    obtain ⟨t, rfl⟩ := r
    cases (show T = "int" from ty)
    exact ⟨typeIs_int s i t, fun _ e => nomatch e⟩
  | ref p =>
    cases r
    rcases ty with ⟨rfl, xs, hq⟩ | ⟨rfl, ⟨o, hk, hc, hd⟩ | ⟨xs, hq⟩⟩ | ⟨rfl, hk⟩ | ⟨rfl, S, n, hk⟩
    · obtain ⟨its, _, pl, _⟩ := I.list hq
      refine ⟨pl.isList.typeIs, fun a e => ?_⟩
      cases e
      obtain ⟨o, n, e, c, hd, _⟩ := pl
      exact ⟨o, e, hd⟩
    · refine ⟨⟨o, I.kIn p o hk, hc⟩, fun a e => ?_⟩
      cases e
      exact ⟨o, I.kIn _ o hk, hd⟩
    · obtain ⟨_, its, _, o, e, c, n, d⟩ := I.hok p _ hq
      refine ⟨⟨o, e, c⟩, fun a e2 => ?_⟩
      cases e2
      exact ⟨o, e, (Prod.mk.inj d).2⟩
    · have z : ∃ o, s.heap.get? p = some o ∧ o.ExactDict := by
        rcases hk with ⟨kvs, hk⟩ | ⟨kvs, hk⟩
        · obtain ⟨_, _, _, _, o, _, _, e, ex, _⟩ := I.hok p _ hk
          exact ⟨o, e, ex⟩
        · obtain ⟨_, _, _, _, o, _, _, e, ex, _⟩ := I.hok p _ hk
          exact ⟨o, e, ex⟩
      obtain ⟨o, e, ex⟩ := z
      refine ⟨⟨o, e, ex.1⟩, fun a e2 => ?_⟩
      cases e2
      exact ⟨o, e, ex.2.1⟩
    · obtain ⟨o, _, _, _, e, ex, _⟩ := I.hok p _ hk
      refine ⟨⟨o, e, ex.1⟩, fun a e2 => ?_⟩
      cases e2
      exact ⟨o, e, ex.2.1⟩
  | _ => exact False.elim ty
def tBM (K : PySem.W.Frag) (T : String) (r : V → List V → Hp → VK → Prop) (to : TE) (t : TA) : TE := fun σ H Q => to σ H fun x H1 => tyV K T x H1 ∧ t σ H1 fun xs H2 => r x xs H2 Q
variable {o e : Expr} {es : List Expr} {to : TE} {t : TA} {name : Str} {apos cpos : Pos} {T id : String} {r : V → List V → Hp → VK → Prop}
theorem pe_bm (pa : PlainAttrs T) (slot : Slot T name id) (hty : typeOf (.builtin id) = pure (.type "method_descriptor")) (hm : MtR X id r) (ho : PE X o to) (ha : PA X (e :: es) t)
    (hbase : attributeBase o name X.env (eval o X.env) = eval o X.env := by rfl)
    (hfew : ((backTo cpos (starEach (e :: es) X.env)).all (fun x => !x.1) && (backToKw cpos (keywordEach [] X.env)).all (fun x => x.1.isSome)
      && decide ((e :: es).length + ([] : List Keyword).length + (if ([] : List Keyword).isEmpty then 0 else 1) < 30)) = true := by rfl)
    (hline : (apos.endLine == cpos.line) = true := by rfl) (hs : starEach (e :: es) X.env = (false, eval e X.env) :: starEach es X.env := by rfl) (hplain : (backTo cpos (starEach es X.env)).any (·.1) = false := by rfl) :
    PE X (.Call (.Attribute o name apos) (e :: es) [] cpos) (tBM X.K T r to t) := by
  intro pins s σ H Q I h
  refine wpAny_Call_method_late hbase hfew hline rfl (thn (ho pins s σ H _ I h) fun v s1 ⟨x, H1, I1, r1, ty, q1⟩ => ?_)
  obtain ⟨h1, h2⟩ := tyV_is I1 r1 ty
  refine ⟨T, id, pa, slot, hty, h1, h2, ?_⟩
  have hA := ha cpos pins s1 σ H1 _ I1 q1
  rw [hs] at hA ⊢
  refine Calls.callWith_builtin (by show (false || (backTo cpos (starEach es X.env)).any (·.1)) = false; rw [hplain] <;> rfl) (Calls.evalArgs_plain ?_)
  exact thn hA fun us s2 ⟨vs, H2, I2, r2, q2⟩ => hm pins s2 σ H2 x vs v us Q I2 r1 r2 q2

end
end L2

namespace L2
open PySem PySem.Spec PyProof.Rows

def MtM (X : Cx) (id : String) (r : V → List V → Hp → VK → Prop) : Prop :=
  ∀ (pins : List (Addr × Obj)) (s : Shared) (σ : St) (H : Hp) (x : V) (xs : List V) (v : Value) (us : List Value) (Q : VK), Inv X pins σ H s → RelV x v → Vals xs us → r x xs H Q →
    wpAny (model X.prog X.w) X.A (call (.builtin id) (v :: us)) (EP X pins σ Q) X.xe s


theorem Vals.one : ∀ {x : V} {us : List Value}, Vals [x] us → ∃ u, us = [u] ∧ RelV x u
  | _, _, .cons r .nil => ⟨_, rfl, r⟩
theorem Vals.zero : ∀ {us : List Value}, Vals [] us → us = []
  | _, .nil => rfl
theorem Vals.reverse {xs : List V} {us : List Value} (h : Vals xs us) : Vals xs.reverse us.reverse := by
  induction h with
  | nil => exact .nil
  | cons r t ih => rw [List.reverse_cons, List.reverse_cons]; exact Vals.append ih (.cons r .nil)
section
variable {X : Cx} {pins : List (Addr × Obj)} {σ : St} {H : Hp} {s : Shared} {l b : Addr} {xs ys zs : List V}


theorem Inv.lset {its its' : List Value} {n : Nat} {f : Array Value → Array Value} {t' : Nat} (I : Inv X pins σ H s) (hH : H l = some (.lst xs))
    (e : s.heap.get? l = some { cls := .type "list", data := .seq its.toArray n }) (hf : f its.toArray = its'.toArray) (hv : Vals ys its') (hz : ys.length ≤ sizeLine) :
    Inv X pins σ (upd H l (.lst ys)) { s with heap := s.heap.update l (Obj.mapSeq f), toks := t' } := by
  have q := PySem.IsL.update e f
  rw [hf] at q
  refine I.write (x := l) (e := l) (by rw [hH]; exact trivial) (.inl rfl) (fun b' u hb hu => (Heap.get?_update_other s.heap (Obj.mapSeq f) (Ne.symm hb)).trans hu) ⟨_, q⟩ ?_
  exact ⟨hz, its', _, hv, q⟩
theorem Inv.fresh (I : Inv X pins σ H s) : H s.heap.objs.size = none := I.hok.fresh (Nat.le_refl _)
theorem Inv.lstM (I : Inv X pins σ H s) (hH : H l = some (.lst xs)) : xs.length ≤ sizeLine ∧ ∃ (its : List Value) (n : Nat), Vals xs its ∧ xs.length = its.length ∧ s.heap.get? l = some { cls := .type "list", data := .seq its.toArray n } := by
  obtain ⟨z, its, n, r, e⟩ := I.hok l _ hH
  exact ⟨z, its, n, r, r.length, e⟩

end

section
variable {X : Cx}


def rAppend : V → List V → Hp → VK → Prop := fun x vs H Q => ∃ l xs y, x = .ref l ∧ vs = [y] ∧ H l = some (.lst xs) ∧ xs.length < sizeLine ∧ Q .non (upd H l (.lst (xs ++ [y])))
theorem mt_append : MtM X "list.append" rAppend := by
  intro pins s σ H x vs v us Q I rx rv h
  obtain ⟨l, xs, y, rfl, rfl, hH, hz, q⟩ := h
  cases rx
  obtain ⟨u, rfl, ru⟩ := rv.one
  obtain ⟨z, its, n, r, hl, e⟩ := I.lstM hH
  refine call_meets F.slot_list_append ⟨_, e, rfl⟩ F.entry_list_append (F.args_list_append_2 _ _) (PySem.list_append l its.toArray n u (by rw [List.size_toArray]; omega)) ⟨e, ?_⟩
  refine ⟨.non, _, I.lset (its' := its ++ [u]) hH e (by simp) (r.append (.cons ru .nil)) ?_, rfl, q⟩
  rw [List.length_append, List.length_singleton]
  omega

end


section
variable {prog : Program} {w : World} {A : Around} {E : Value → Shared → Prop} {s : Shared}
end

section
variable {X : Cx}

end
end L2

namespace L2
open PySem PySem.Spec PyProof.Rows

theorem Vals.strs : ∀ {xs : List Str} {us : List Value}, Vals (xs.map V.str) us → StrsAre us xs
  | [], us, h => by
    rw [List.map_nil] at h
    cases h
    exact StrsAre.nil
  | x :: xs, us, h => by
    rw [List.map_cons] at h
    cases h with
    | cons r t =>
      obtain ⟨k, rfl⟩ := r
      exact StrsAre.cons x k (Vals.strs t)
theorem Vals.bls : ∀ {bs : List Bool} {us : List Value}, Vals (bs.map V.bl) us → us = bs.map Value.bool
  | [], us, h => by
    rw [List.map_nil] at h
    cases h
    rfl
  | b :: bs, us, h => by
    rw [List.map_cons] at h
    cases h with
    | cons r t =>
      cases r
      rw [Vals.bls t, List.map_cons]
theorem Vals.ref1 {a : Addr} {us : List Value} (r : Vals [V.ref a] us) : us = [Value.ref a] := by
  cases r with
  | cons r t =>
    cases t
    cases r
    rfl
section
variable {prog : Program} {w : World} {A : Around} {E : Value → Shared → Prop} {s : Shared} {l : Addr} {its : List Value} {ns : List Int} {Q : Value → Shared → Prop}
end


section
variable {X : Cx}

end


section
variable {X : Cx}
end


section
variable {X : Cx}
end


theorem iter_any {prog : Program} {w : World} {A : Around} {E : Value → Shared → Prop} {s : Shared} {l : Addr} {items : Array Value} {Q : Value → Shared → Prop} (hl : s.heap.IsList l items)
    (h : ∀ s₂ : Shared, s₂ = { s with heap := s.heap.push { cls := .type "list_iterator", data := .fields #[.ref l, .int 0 0] } } →
      (s₂.heap.IsListIter s.heap.objs.size l 0 ∧ s₂.heap.IsList l items) → l ≠ s.heap.objs.size → Q (.ref s.heap.objs.size) s₂) : wpAny (model prog w) A (pyIter (.ref l)) Q E s := by
  have hlt : l < s.heap.objs.size := by obtain ⟨_, e, _⟩ := hl; exact Heap.lt_size e
  exact wpAny_pyIter_list hl (h _ rfl ⟨⟨_, Heap.get?_push_size _ rfl, rfl, rfl⟩, hl.push _⟩ (Nat.ne_of_lt hlt))
theorem truth_bools {prog : Program} {w : World} {A : Around} {bs : List Bool} {its : List Value} (e : its = bs.map Value.bool) :
    TruthOf prog w A (fun i v => its.toArray[i]? = some v) (fun i => bs.getD i false) := fun i v s Q E hv hq => by
  have hv' : its[i]? = some v := by simpa using hv
  rw [e, List.getElem?_map] at hv'
  obtain ⟨b, hb, rfl⟩ := Option.map_eq_some_iff.mp hv'
  have hg : bs.getD i false = b := by rw [List.getD_eq_getElem?_getD, hb] <;> rfl
  have hq' : Q (bs.getD i false) s := hq
  rw [hg] at hq'
  exact wpAny_truthy_bool hq'
theorem all_range : ∀ bs : List Bool, (List.range bs.length).all (fun i => bs.getD i false) = bs.all id
  | [] => rfl
  | b :: bs => by
    rw [List.length_cons, List.range_succ_eq_map, List.all_cons, List.all_map, List.all_cons, ← all_range bs]
    all_goals rfl
section
variable {X : Cx}
def rAll (K : PySem.W.Frag) : List V → Hp → VK → Prop := fun vs H Q => ∃ (a : Addr) (bs : List Bool), vs = [V.ref a] ∧ SqL K H a (bs.map V.bl) ∧ Q (.bl (bs.all id)) H
theorem cr_all (hc : X.calm = true) : CallR X (.builtin "all") (rAll X.K) := by
  intro pins s σ H vs us Q I r h
  obtain ⟨a, bs, rfl, hs, q⟩ := h
  obtain ⟨its, rv, hl, _⟩ := I.list hs
  rw [Vals.ref1 r]
  have hb := rv.bls
  refine call_all_walk (iter_any hl.isList fun s₂ e2 st hne => ?_)
  subst e2
  refine ⟨_, _, _, _, _, _, _, rfl, Walks.list (A := X.A.in1) (I.ok.hd hc) _ a hne its.toArray, st, truth_bools hb, fun h' tk hk => ?_⟩
  refine ⟨.bl _, H, I.kept fun b o eo => hk b o (fun hmem => ?_) (Heap.get?_push_of_some _ eo), ?_, q⟩
  · rcases List.mem_cons.mp hmem with e1 | hmem
    · exact absurd (e1 ▸ Heap.lt_size eo) (Nat.lt_irrefl _)
    · cases hmem
  · show Value.bool _ = Value.bool _
    rw [← all_range, hb, List.size_toArray, List.length_map]
end


mutual
inductive Dp (K : PySem.W.Frag) (H : Hp) : V → PyData → Prop
  | non : Dp K H .non .none
  | bl (b : Bool) : Dp K H (.bl b) (.bool b)
  | int (i : Int) : Dp K H (.int i) (.int i)
  | str (x : Str) : Dp K H (.str x) (.str x)
  | lst {a : Addr} {xs : List V} {ds : List PyData} : SqL K H a xs → DpAll K H xs ds → Dp K H (.ref a) (.list ds)
  | tup {a : Addr} {xs : List V} {ds : List PyData} : SqT K H a xs → DpAll K H xs ds → Dp K H (.ref a) (.tuple ds)
inductive DpAll (K : PySem.W.Frag) (H : Hp) : List V → List PyData → Prop
  | nil : DpAll K H [] []
  | cons {v : V} {vs : List V} {d : PyData} {ds : List PyData} : Dp K H v d → DpAll K H vs ds → DpAll K H (v :: vs) (d :: ds)
end
section
variable {X : Cx} {pins : List (Addr × Obj)} {σ : St} {H : Hp} {s : Shared}
mutual
theorem Dp.reads (I : Inv X pins σ H s) : ∀ (d : PyData) (v : V) (u : Value), Dp X.K H v d → RelV v u → ∃ as, Reads s.heap u d as
  | .none, _, _, h, r => by
    cases h
    cases r
    exact ⟨_, Reads.none⟩
  | .bool b, _, _, h, r => by
    cases h
    cases r
    exact ⟨_, Reads.bool b⟩
  | .int i, _, _, h, r => by
    cases h
    obtain ⟨t, rfl⟩ := r
    exact ⟨_, Reads.int i t⟩
  | .str x, _, _, h, r => by
    cases h
    obtain ⟨t, rfl⟩ := r
    exact ⟨_, Reads.str x t⟩
  | .list ds, _, _, h, r => by
    cases h with
    | lst hs ha =>
      cases r
      obtain ⟨its, rv, ⟨o, n, ho, hc, _, hd⟩, _⟩ := I.list hs
      obtain ⟨as, hr⟩ := Dp.readsAll I ds _ its ha rv
      exact ⟨_, Reads.list ho hc hd hr⟩
  | .tuple ds, _, _, h, r => by
    cases h with
    | tup hs ha =>
      cases r
      obtain ⟨its, rv, ⟨o, ho, hc, n, hd⟩, _⟩ := I.tuple hs
      obtain ⟨as, hr⟩ := Dp.readsAll I ds _ its ha rv
      exact ⟨_, Reads.tuple ho hc hd hr⟩
  | .dict _, _, _, h, _ => by cases h
theorem Dp.readsAll (I : Inv X pins σ H s) : ∀ (ds : List PyData) (vs : List V) (us : List Value), DpAll X.K H vs ds → Vals vs us → ∃ as, ReadsAll s.heap us ds as
  | [], _, _, h, r => by
    cases h
    cases r
    exact ⟨_, ReadsAll.nil⟩
  | d :: ds, _, _, h, r => by
    cases h with
    | cons h1 h2 =>
      cases r with
      | cons r1 r2 =>
        obtain ⟨as, q1⟩ := Dp.reads I d _ _ h1 r1
        obtain ⟨bs, q2⟩ := Dp.readsAll I ds _ _ h2 r2
        exact ⟨_, ReadsAll.cons q1 q2⟩
end
end
section
variable {X : Cx}
def rEqD (K : PySem.W.Frag) : R2 := fun x y H Q => ∃ d e, Dp K H x d ∧ Dp K H y e ∧ SeqAt.shaped d = true ∧ SeqAt.shaped e = true ∧ Q (.bl (PyData.eqv d e)) H
theorem op_eqD (hu : X.A.units + 64 < cLine) : OpR X (compareOp .Eq) (rEqD X.K) := by
  intro pins s σ H x y v u Q I rx ry h
  obtain ⟨d, e, hd, he, sd, se, q⟩ := h
  obtain ⟨as, r1⟩ := Dp.reads I d x v hd rx
  obtain ⟨bs, r2⟩ := Dp.reads I e y u he ry
  exact SeqAt.compareEq_shaped r1 r2 sd se hu ⟨.bl _, H, I, rfl, q⟩
end
end L2

namespace L2
open PySem PySem.Spec PyProof.Rows
abbrev CellAt (h : Heap) (c : Addr) (v : Option Value) : Prop := h.IsCell c v
def relS (scope sc : Scope) : Scope :=
  { scope with names := scope.names.map fun (n, k) => if (k == .free && sc.kind == .function && sc.names.lookup n == some .cell) then (n, .cell) else (n, k) }

def cloFrom (cells : List (Str × Addr)) : List (Str × NameKind) → List (Str × Addr) → List (Str × Addr)
  | [], acc => acc
  | (n, k) :: r, acc => if k == .free then cloFrom cells r ((n, (cells.lookup n).getD 0) :: acc) else cloFrom cells r acc

theorem closure_loop (env : Env) (f : Str × NameKind → List (Str × Addr) → Sem (ForInStep (List (Str × Addr))))
    (hf : ∀ n k c, f (n, k) c = if k == .free then (do let a ← cellOf env n; pure (.yield ((n, a) :: c))) else pure (.yield c)) :
    ∀ (names : List (Str × NameKind)) (acc : List (Str × Addr)), (∀ y ∈ names, y.2 = .free → ∃ c, env.cells.lookup y.1 = some c) → forIn names acc f = pure (cloFrom env.cells names acc)
  | [], acc, _ => by rw [List.forIn_nil]; rfl
  | (n, k) :: r, acc, h => by
    rw [List.forIn_cons, hf]
    have ih := fun acc => closure_loop env f hf r acc fun y hy => h y (List.mem_cons_of_mem _ hy)
    unfold cloFrom
    by_cases hk : (k == NameKind.free) = true
    · rw [if_pos hk, if_pos hk]
      obtain ⟨c, hc⟩ := h (n, k) List.mem_cons_self (by simpa using hk)
      have e : cellOf env n = pure c := by unfold cellOf; rw [hc]
      rw [e]
      have e2 : (env.cells.lookup n).getD 0 = c := by rw [hc]; rfl
      rw [e2]
      exact ih _
    · rw [if_neg hk, if_neg hk]
      exact ih _
theorem closure_ok {scope : Scope} {env : Env} (h : ∀ y ∈ scope.names, y.2 = .free → ∃ c, env.cells.lookup y.1 = some c) : closureFor scope env = pure (cloFrom env.cells scope.names []) := by
  simp only [closureFor]
  rw [closure_loop env _ (fun n k c => rfl) scope.names [] h]
  rfl

theorem mem_lookup {α : Type} : ∀ {l : List (Str × α)} {n : Str} {c : α}, (n, c) ∈ l → ∃ c', l.lookup n = some c'
  | (k, v) :: r, n, c, h => by
    rw [List.lookup_cons]
    cases hb : n == k with
    | true => exact ⟨_, rfl⟩
    | false =>
      rcases List.mem_cons.mp h with e | h
      · cases e; simp at hb
      · exact mem_lookup h

theorem cloFrom_mem {cells : List (Str × Addr)} : ∀ {names : List (Str × NameKind)} {acc : List (Str × Addr)} {n : Str} {c : Addr}, (n, c) ∈ cloFrom cells names acc → (n, c) ∈ acc ∨ ((n, .free) ∈ names ∧ c = (cells.lookup n).getD 0)
  | [], _, _, _, h => .inl h
  | (m, k) :: r, acc, n, c, h => by
    unfold cloFrom at h
    split at h
    · rename_i hk
      have hk : k = .free := by simpa using hk
      rcases cloFrom_mem h with h | ⟨h1, h2⟩
      · rcases List.mem_cons.mp h with e | h
        · cases e; exact .inr ⟨hk ▸ List.mem_cons_self, rfl⟩
        · exact .inl h
      · exact .inr ⟨List.mem_cons_of_mem _ h1, h2⟩
    · rcases cloFrom_mem h with h | ⟨h1, h2⟩
      · exact .inl h
      · exact .inr ⟨List.mem_cons_of_mem _ h1, h2⟩
theorem cloFrom_acc {cells : List (Str × Addr)} : ∀ {names : List (Str × NameKind)} {acc : List (Str × Addr)} {p : Str × Addr}, p ∈ acc → p ∈ cloFrom cells names acc
  | [], _, _, h => h
  | (m, k) :: r, acc, p, h => by
    unfold cloFrom
    split
    · exact cloFrom_acc (List.mem_cons_of_mem _ h)
    · exact cloFrom_acc h
theorem cloFrom_has {cells : List (Str × Addr)} : ∀ {names : List (Str × NameKind)} {acc : List (Str × Addr)} {n : Str}, (n, .free) ∈ names → (n, (cells.lookup n).getD 0) ∈ cloFrom cells names acc
  | (m, k) :: r, acc, n, h => by
    unfold cloFrom
    rcases List.mem_cons.mp h with e | h
    · cases e
      exact cloFrom_acc List.mem_cons_self
    · split
      · exact cloFrom_has h
      · exact cloFrom_has h

theorem cells_mem : ∀ {names : List (Str × NameKind)} {h : Heap} {acc : List (Str × Addr)} {x : Str} {c : Addr}, (x, c) ∈ cellsFrom h.objs.size names acc →
    (x, c) ∈ acc ∨ ((x, .cell) ∈ names ∧ h.objs.size ≤ c ∧ CellAt (pushCells h names) c none)
  | [], _, _, _, _, h => .inl h
  | (n, k) :: r, h, acc, x, c, hm => by
    unfold cellsFrom at hm
    unfold pushCells
    split at hm
    · rename_i hk
      rw [if_pos hk]
      have hk : k = .cell := by simpa using hk
      rw [← Heap.size_push h { cls := .type "cell", data := .cell none }] at hm
      rcases cells_mem hm with hm | ⟨h1, h2, h3⟩
      · rcases List.mem_cons.mp hm with e | hm
        · cases e
          exact .inr ⟨hk ▸ List.mem_cons_self, Nat.le_refl _, _, pushCells_keeps r _ _ _ (Heap.get?_push_size _ rfl), rfl⟩
        · exact .inl hm
      · rw [Heap.size_push] at h2
        exact .inr ⟨List.mem_cons_of_mem _ h1, Nat.le_of_succ_le h2, h3⟩
    · rename_i hk
      rw [if_neg hk]
      rcases cells_mem hm with hm | ⟨h1, h2, h3⟩
      · exact .inl hm
      · exact .inr ⟨List.mem_cons_of_mem _ h1, h2, h3⟩
theorem cells_acc : ∀ {names : List (Str × NameKind)} {n : Nat} {acc : List (Str × Addr)} {p : Str × Addr}, p ∈ acc → p ∈ cellsFrom n names acc
  | [], _, _, _, h => h
  | (m, k) :: r, n, acc, p, h => by
    unfold cellsFrom
    split
    · exact cells_acc (List.mem_cons_of_mem _ h)
    · exact cells_acc h
theorem cells_has : ∀ {names : List (Str × NameKind)} {n : Nat} {acc : List (Str × Addr)} {x : Str}, (x, .cell) ∈ names → ∃ c, (x, c) ∈ cellsFrom n names acc
  | (m, k) :: r, n, acc, x, h => by
    unfold cellsFrom
    rcases List.mem_cons.mp h with e | h
    · cases e
      exact ⟨n, cells_acc List.mem_cons_self⟩
    · split
      · exact cells_has h
      · exact cells_has h
theorem cells_inj : ∀ {names : List (Str × NameKind)} {h : Heap} {acc : List (Str × Addr)} {x y : Str} {c : Addr}, (∀ p ∈ acc, p.2 < h.objs.size) → (∀ x y c, (x, c) ∈ acc → (y, c) ∈ acc → x = y) →
    (x, c) ∈ cellsFrom h.objs.size names acc → (y, c) ∈ cellsFrom h.objs.size names acc → x = y
  | [], _, _, _, _, _, _, hi, h1, h2 => hi _ _ _ h1 h2
  | (n, k) :: r, h, acc, x, y, c, hl, hi, h1, h2 => by
    unfold cellsFrom at h1 h2
    split at h1
    · rename_i hk
      rw [if_pos hk] at h2
      rw [← Heap.size_push h { cls := .type "cell", data := .cell none }] at h1 h2
      refine cells_inj (h := h.push _) (fun p hp => ?_) (fun x y c a b => ?_) h1 h2
      · rw [Heap.size_push]
        rcases List.mem_cons.mp hp with rfl | hp
        · exact Nat.lt_succ_self _
        · exact Nat.lt_succ_of_lt (hl p hp)
      · rcases List.mem_cons.mp a with e | a <;> rcases List.mem_cons.mp b with e' | b
        · cases e; cases e'; rfl
        · cases e; exact absurd (hl _ b) (Nat.lt_irrefl _)
        · cases e'; exact absurd (hl _ a) (Nat.lt_irrefl _)
        · exact hi _ _ _ a b
    · rename_i hk
      rw [if_neg hk] at h2
      exact cells_inj hl hi h1 h2

theorem newEnv_comp {M : Model} {A : Around} {E : Value → Shared → Prop} {s : Shared} {scope : Scope} {globals : Addr} {closure : List (Str × Addr)} {qual : Str} {func : Option Addr} {code : Value} {around : Env} {builtins : Addr} {Q : Env → Shared → Prop}
    (h : Q (newEnv scope s.heap.objs.size globals (cellsFrom (s.heap.objs.size + 1) scope.names closure) qual func code (some around) builtins)
      { s with heap := pushCells (s.heap.push { cls := .type "dict", data := .dict #[] }) scope.names }) :
    wpAny M A (newFunctionEnv scope globals closure [] qual func code (some around) builtins) Q E s := by
  simp only [newFunctionEnv, Option.isSome_some, if_true]
  refine wpAny_bind (wpAny_alloc ?_)
  refine wpAny_bind (wpAny_layCells _ (fun n k c => rfl) scope.names closure _ _ ?_)
  rw [show ({ s with heap := s.heap.push { cls := .type "dict", data := .dict #[] } } : Shared).heap.objs.size = s.heap.objs.size + 1 from Heap.size_push ..]
  rw [List.forIn_nil]
  exact wpAny_bind (wpAny_pure (wpAny_pure h))


theorem lookup_relS {sc : Scope} : ∀ {names : List (Str × NameKind)} {x : Str} {k : NameKind},
    (names.map fun (n, k) => if (k == NameKind.free && sc.kind == .function && sc.names.lookup n == some .cell) then (n, NameKind.cell) else (n, k)).lookup x = some k →
    ∃ k', names.lookup x = some k' ∧ (k = k' ∨ (k' = .free ∧ k = .cell))
  | [], _, _, h => by simp at h
  | (n, k₀) :: r, x, k, h => by
    have ih := @lookup_relS sc r x k
    have h' : List.lookup x ((if (k₀ == NameKind.free && sc.kind == .function && sc.names.lookup n == some .cell) = true then (n, NameKind.cell) else (n, k₀)) :: (r.map _)) = some k := h
    cases hx : x == n with
    | true =>
      simp only [List.lookup_cons, hx]
      by_cases hc : (k₀ == NameKind.free && sc.kind == .function && sc.names.lookup n == some .cell) = true
      · rw [if_pos hc] at h'
        simp only [List.lookup_cons, hx] at h'
        cases h'
        simp only [Bool.and_eq_true, beq_iff_eq] at hc
        exact ⟨k₀, rfl, .inr ⟨hc.1.1, rfl⟩⟩
      · rw [if_neg hc] at h'
        simp only [List.lookup_cons, hx] at h'
        cases h'
        exact ⟨_, rfl, .inl rfl⟩
    | false =>
      simp only [List.lookup_cons, hx]
      by_cases hc : (k₀ == NameKind.free && sc.kind == .function && sc.names.lookup n == some .cell) = true
      · rw [if_pos hc] at h'
        simp only [List.lookup_cons, hx] at h'
        exact ih h'
      · rw [if_neg hc] at h'
        simp only [List.lookup_cons, hx] at h'
        exact ih h'
structure BlkOk (N : List Str) (sc scope : Scope) (own : List (Str × Nat)) : Prop where
  kind : scope.kind = .function
  uniq : ∀ y ∈ scope.names, scope.names.lookup y.1 = some y.2
  ix : ∀ p ∈ own, N[p.2]? = some p.1
  free : ∀ y ∈ scope.names, y.2 = .free → sc.names.lookup y.1 = some .cell ∨ sc.names.lookup y.1 = some .free
  own : ∀ y ∈ scope.names, y.2 = .local ∨ y.2 = .cell → y.1 ∈ own.map (·.1) ∨ y.1 ∉ N

def wipe (σ : St) : List Nat → St
  | [] => σ
  | v :: vs => (wipe σ vs).set v none
theorem wipe_length (σ : St) : ∀ vs : List Nat, (wipe σ vs).length = σ.length
  | [] => rfl
  | v :: vs => by unfold wipe; rw [List.length_set, wipe_length σ vs]
theorem wipe_some {σ : St} {i : Nat} {x : V} : ∀ {vs : List Nat}, (wipe σ vs)[i]? = some (some x) → σ[i]? = some (some x) ∧ i ∉ vs
  | [], h => ⟨h, by simp⟩
  | v :: vs, h => by
    unfold wipe at h
    by_cases hi : v = i
    · subst hi
      by_cases hv : v < (wipe σ vs).length
      · rw [List.getElem?_set_self hv] at h; cases h
      · rw [List.getElem?_eq_none (by simpa using hv)] at h; cases h
    · rw [List.getElem?_set_ne hi] at h
      obtain ⟨h1, h2⟩ := wipe_some h
      exact ⟨h1, by simp only [List.mem_cons, not_or]; exact ⟨fun e => hi e.symm, h2⟩⟩


abbrev Cx.blk (X : Cx) (s : Shared) (H : Hp) (scope : Scope) (cenv : Env) (fp : List Addr) : Cx := { X with s_0 := s, H_0 := H, env := cenv, outer := X.stack, ex := fp, fn := fun x => scope.names.lookup x == some .cell, pn := [], xe := fun _ _ => False }
section
variable {X : Cx} {pins : List (Addr × Obj)} {σ : St} {H : Hp} {s : Shared}
theorem block_start {scope : Scope} {own : List (Str × Nat)} {fp : List Addr} (I : Inv X pins σ H s) (ok : BlkOk X.N X.env.scope scope own) (hN : X.N.Nodup) (hfp : ∀ b ∈ fp, FpOk X pins H b ∧ b < s.heap.objs.size) :
    Inv (X.blk s H scope (compEnvC scope (cellsFrom (s.heap.objs.size + 1) scope.names (cloFrom X.env.cells scope.names [])) s.heap.objs.size X.env) fp) [] (wipe σ (own.map (·.2))) H { s with heap := pushCells (s.heap.push { cls := .type "dict", data := .dict #[] }) scope.names } := by
  have hfree : ∀ y ∈ scope.names, y.2 = .free → ∃ c, X.env.cells.lookup y.1 = some c := fun y hy e => by
    rcases ok.free y hy e with k | k
    · exact I.ok.has _ (.inl k)
    · exact I.ok.has _ (.inr k)
  generalize hcenv : compEnvC scope (cellsFrom (s.heap.objs.size + 1) scope.names (cloFrom X.env.cells scope.names [])) s.heap.objs.size X.env = cenv
  have kp : ∀ b o, s.heap.get? b = some o → (pushCells (s.heap.push { cls := .type "dict", data := .dict #[] }) scope.names).get? b = some o := fun b o e => pushCells_keeps _ _ _ _ (Heap.get?_push_of_some _ e)
  have hL : cenv.locals = s.heap.objs.size := by rw [← hcenv]; rfl
  have hcl : cenv.cells = cellsFrom (s.heap.objs.size + 1) scope.names (cloFrom X.env.cells scope.names []) := by rw [← hcenv]; rfl
  have hsc : cenv.scope = relS scope X.env.scope := by rw [← hcenv]; rfl
  rw [← Heap.size_push s.heap { cls := .type "dict", data := .dict #[] }] at hcl
  have cm : ∀ {y c}, (y, c) ∈ cloFrom X.env.cells scope.names [] → X.env.cells.lookup y = some c ∧ c < s.heap.objs.size := fun {y c} hm => by
    rcases cloFrom_mem hm with hm | ⟨h1, rfl⟩
    · cases hm
    · obtain ⟨c, hc⟩ := hfree _ h1 rfl
      rw [hc]
      obtain ⟨w, z⟩ := I.cell _ _ hc
      exact ⟨rfl, z.lt⟩
  have mem : ∀ {y c}, cenv.cells.lookup y = some c → (X.env.cells.lookup y = some c ∧ c < s.heap.objs.size) ∨ (s.heap.objs.size + 1 ≤ c ∧ CellAt (pushCells (s.heap.push { cls := .type "dict", data := .dict #[] }) scope.names) c none) := fun {y c} e => by
    rw [hcl] at e
    rcases cells_mem (PySem.mem_of_lookup e) with hm | ⟨_, h2, h3⟩
    · exact .inl (cm hm)
    · rw [Heap.size_push] at h2; exact .inr ⟨h2, h3⟩
  have look : ∀ {y}, scope.names.lookup y = some .free → ∃ c, cenv.cells.lookup y = some c ∧ X.env.cells.lookup y = some c := fun {y} hl => by
    have hy : (y, NameKind.free) ∈ scope.names := PySem.mem_of_lookup hl
    obtain ⟨c', e'⟩ := mem_lookup (cells_acc (names := scope.names) (n := (s.heap.push { cls := .type "dict", data := .dict #[] }).objs.size) (cloFrom_has (cells := X.env.cells) (acc := []) hy))
    rw [← hcl] at e'
    refine ⟨c', e', ?_⟩
    rw [hcl] at e'
    rcases cells_mem (PySem.mem_of_lookup e') with hm | ⟨h1, _, _⟩
    · exact (cm hm).1
    · have := ok.uniq _ h1
      rw [hl] at this; cases this
  have okB : (X.blk s H scope cenv fp).Ok := by
    refine ⟨I.ok.mod, by show cenv.scope.kind = _; rw [hsc]; exact ok.kind, by show cenv.globals = _; rw [← hcenv]; exact I.ok.glob, by show cenv.builtins = _; rw [← hcenv]; exact I.ok.blt, by show s.heap.objs.size ≤ cenv.locals; rw [hL]; exact Nat.le_refl _,
      fun y z c e1 e2 => ?_, fun y hy => ?_, fun y c z e => ?_, I.ok.hd, I.ok.frames, .inl rfl, fun b hb => ⟨?_, fun y c e z => ?_⟩, I.bs, Nat.le_trans I.ok.bsz I.sz, fun b o e hb => ?_, fun b hb z => ?_, I.stack, I.stkFree⟩
    · have e1 : cenv.cells.lookup y = some c := e1
      have e2 : cenv.cells.lookup z = some c := e2
      rw [hcl] at e1 e2
      refine cells_inj (fun p hp => ?_) (fun y z c a b => I.ok.inj y z c (cm a).1 (cm b).1) (PySem.mem_of_lookup e1) (PySem.mem_of_lookup e2)
      rw [Heap.size_push]
      exact Nat.lt_succ_of_lt (cm (y := p.1) (c := p.2) hp).2
    · show ∃ c, cenv.cells.lookup y = some c
      have key : ∀ k, cenv.kindOf y = some k → (k = .cell ∨ k = .free) → ∃ c, cenv.cells.lookup y = some c := fun k hk hk' => by
        unfold Env.kindOf at hk
        rw [hsc] at hk
        obtain ⟨k', e, r⟩ := lookup_relS hk
        have : k' = .cell ∨ k' = .free := by
          rcases r with rfl | ⟨rfl, _⟩
          · exact hk'
          · exact .inr rfl
        rcases this with rfl | rfl
        · obtain ⟨c, hm⟩ := cells_has (n := (s.heap.push { cls := .type "dict", data := .dict #[] }).objs.size) (acc := cloFrom X.env.cells scope.names []) (PySem.mem_of_lookup e)
          obtain ⟨c', e'⟩ := mem_lookup hm
          exact ⟨c', by rw [hcl]; exact e'⟩
        · obtain ⟨c, h1, _⟩ := look e
          exact ⟨c, h1⟩
      rcases hy with hy | hy
      · exact key _ hy (.inl rfl)
      · exact key _ hy (.inr rfl)
    · have z : (scope.names.lookup y == some NameKind.cell) = true := z
      have z : scope.names.lookup y = some .cell := by simpa using z
      have e : cenv.cells.lookup y = some c := e
      rw [hcl] at e
      rcases cells_mem (PySem.mem_of_lookup e) with hm | ⟨_, h2, _⟩
      · rcases cloFrom_mem hm with hm | ⟨h1, _⟩
        · cases hm
        · have q := ok.uniq _ h1
          rw [z] at q; cases q
      · rw [Heap.size_push] at h2
        exact Nat.le_of_succ_le h2
    · show b ≠ cenv.locals
      rw [hL]; exact Nat.ne_of_lt (hfp b hb).2
    · have e : cenv.cells.lookup y = some c := e
      rcases mem e with ⟨h1, _⟩ | ⟨h1, _⟩
      · exact (hfp b hb).1.2.2.2.2.1 y c h1 z
      · have h2 : s.heap.objs.size + 1 ≤ b := by rw [← z]; exact h1
        exact absurd (Nat.lt_of_lt_of_le (hfp b hb).2 (Nat.le_of_succ_le h2)) (Nat.lt_irrefl _)
    · rcases (hfp b hb).1.2.2.2.1 with z | z
      · exact I.ok.noex b o e z
      · exact absurd (Nat.lt_of_lt_of_le (Heap.lt_size e) (Nat.le_trans I.ok.bsz z)) (Nat.lt_irrefl _)
    · rcases List.mem_cons.mp (I.stkSub b z) with z | z
      · exact (hfp b hb).1.2.1 z
      · exact (hfp b hb).1.2.2.1 z
  refine ⟨okB, rfl, I.bare, Un.kept kp, ⟨fun _ => none, ?_, fun i y av e1 e2 e3 => ?_⟩, fun y c e => ?_, ?_, fun y c e => ?_, fun p hp => ?_, I.hok.kept kp, by rw [wipe_length]; exact I.len⟩
  · show Heap.Ns _ cenv.locals _
    rw [hL]
    exact Heap.Ns.keeps (Heap.Ns.new ..) fun b o e => pushCells_keeps _ _ _ _ e
  · obtain ⟨e2, hne⟩ := wipe_some e2
    have hfr : scope.names.lookup y = some .free ∧ (cenv.kindOf y = some .cell ∨ cenv.kindOf y = some .free) := by
      have key : ∀ k, cenv.scope.names.lookup y = some k → k = .local ∨ k = .cell ∨ k = .free → scope.names.lookup y = some .free ∧ (cenv.kindOf y = some .cell ∨ cenv.kindOf y = some .free) := fun k hk hk' => by
        have hk0 := hk
        rw [hsc] at hk
        obtain ⟨k', e, r⟩ := lookup_relS hk
        have no : ¬ (k' = .local ∨ k' = .cell) := fun hh => by
          rcases ok.own _ (PySem.mem_of_lookup e) hh with e' | e'
          · obtain ⟨p, hp, hpy⟩ := List.mem_map.mp e'
            have e3 := ok.ix p hp
            have : p.1 = y := hpy
            rw [this] at e3
            exact hne (List.mem_map.mpr ⟨p, hp, nodup_ix hN e3 e1⟩)
          · exact e' (List.mem_of_getElem? e1)
        rcases r with rfl | ⟨rfl, rfl⟩
        · rcases hk' with rfl | rfl | rfl
          · exact absurd (.inl rfl) no
          · exact absurd (.inr rfl) no
          · exact ⟨e, .inr hk0⟩
        · exact ⟨e, .inl hk0⟩
      have e3 : Vis cenv.scope y := e3
      rcases e3 with e3 | e3 | e3
      · exact key _ e3 (.inl rfl)
      · exact key _ e3 (.inr (.inl rfl))
      · exact key _ e3 (.inr (.inr rfl))
    obtain ⟨m, hn, hl⟩ := I.loc
    have hvis : Vis X.env.scope y := (ok.free _ (PySem.mem_of_lookup hfr.1) rfl).elim (fun k => .inr (.inl k)) (fun k => .inr (.inr k))
    obtain ⟨w, r, q⟩ := hl i y av e1 e2 hvis
    refine ⟨w, r, .inr ⟨hfr.2, ?_⟩⟩
    obtain ⟨c, h1, h2⟩ := look hfr.1
    rcases q with ⟨k, _⟩ | ⟨_, c', e', z⟩
    · have k : X.env.scope.names.lookup y = some .local := k
      rcases ok.free _ (PySem.mem_of_lookup hfr.1) rfl with k' | k' <;> rw [show X.env.scope.names.lookup y = _ from k'] at k <;> cases k
    · rw [h2] at e'; cases e'
      exact ⟨c, h1, z.keeps kp⟩
  · have e : cenv.cells.lookup y = some c := e
    rcases mem e with ⟨h1, _⟩ | ⟨_, z⟩
    · obtain ⟨w, z⟩ := I.cell y c h1
      exact ⟨w, z.keeps kp⟩
    · exact ⟨_, z⟩
  · show H cenv.locals = none
    rw [hL]; exact I.hok.fresh (Nat.le_refl _)
  · have e : cenv.cells.lookup y = some c := e
    rcases mem e with ⟨h1, _⟩ | ⟨h1, _⟩
    · exact I.freeC y c h1
    · exact I.hok.fresh (Nat.le_of_succ_le h1)
  · exact absurd (show p ∈ ([] : List (Addr × Obj)) ++ [] from hp) (by simp)


theorem app_ok {E : Value → Shared → Prop} {D : Addr} {xs : List V} {y : V} {v : Value} {Q : Value → Shared → Prop} (I : Inv X pins σ H s) (hD : H D = some (.lst xs)) (hz : xs.length < sizeLine) (r : RelV y v)
    (h : ∀ s', Inv X pins σ (upd H D (.lst (xs ++ [y]))) s' → Q .none s') : wpAny (model X.prog X.w) X.A (call (.builtin "list.append") [.ref D, v]) Q E s := by
  obtain ⟨hz', its, n, ri, e⟩ := I.hok D _ hD
  have hl := ri.length
  refine append_at (hsz := by rw [List.size_toArray]; omega) e fun h' sb ho' => ?_
  refine h { s with heap := h' } (I.write (t' := s.toks) (by rw [hD]; trivial) (.inl rfl) (fun b u hb q => (sb.2 b hb).trans q) ⟨_, ho'⟩ ⟨by rw [List.length_append]; exact hz, its ++ [v], n + 1, ri.append (.cons r .nil), ?_⟩)
  rw [ho']
  simp


def PTs (X : Cx) (ifs : List Expr) (t : TT) : Prop :=
  ∀ (pins : List (Addr × Obj)) (s : Shared) (σ : St) (H : Hp) (Q : Bool → Hp → Prop), Inv X pins σ H s → t σ H Q →
    wpAny (model X.prog X.w) X.A (forIn ifs true fun c r => if r = true then do let ok ← isTrue c X.env (eval c X.env); pure (ForInStep.yield ok) else pure (ForInStep.yield r)) (TP X pins σ Q) X.xe s
def tYes : TT := fun _ H Q => Q true H
theorem pts_nil : PTs X [] tYes := fun _ _ _ H _ I h => wpAny_tests_nil ⟨H, I, h⟩
end

theorem thnF {α : Type} {t : Sem α} {Q Q' : α → Shared → Prop} {M : Model} {A : Around} {E : Value → Shared → Prop} {s : Shared} (h : wpAny M A t Q (fun _ _ => False) s) (hQ : ∀ a s, Q a s → Q' a s) : wpAny M A t Q' E s := wpAny_mono h hQ fun _ _ z => False.elim z


theorem compLoop_any {prog : Program} {w : World} {A : Around} {R : Result → Shared → Prop} {s : Shared} {elt target iter : Expr} {ifs : List Expr} {scope : Scope} {pos : Pos} {it acc : Value} {env : Env} (I : Nat → Shared → Prop)
    (turn : ∀ n s, I n s → wpAny (model prog w) A (pyNext it) (fun r s₁ => match r with
      | none => R (.ok .next) s₁
      | some v => wpAny (model prog w) A (letOwnedTupleGo target it v) (fun _ s₁' => wpAny (model prog w) A (assign target env v) (fun _ s₂ =>
          wpAny (model prog w) A (forIn ifs true fun c r => if r = true then do let ok ← isTrue c env (eval c env); pure (ForInStep.yield ok) else pure (ForInStep.yield r)) (fun ok s₃ =>
            if ok = true then wpAny (model prog w) A (eval elt env) (fun x s₄ =>
              wpAny (model prog w) A (call (.builtin "list.append") [acc, x]) (fun _ s₅ => ∃ m, m < n ∧ I m s₅) (notedBy (model prog w) A env fun e s' => R (.error e) s') s₄) (notedBy (model prog w) A env fun e s' => R (.error e) s') s₃
            else ∃ m, m < n ∧ I m s₃) (notedBy (model prog w) A env fun e s' => R (.error e) s') s₂) (notedBy (model prog w) A env fun e s' => R (.error e) s') s₁') (notedBy (model prog w) A env fun e s' => R (.error e) s') s₁) (notedBy (model prog w) A env fun e s' => R (.error e) s') s)
    (n : Nat) (h : I n s) :
    codeAny (model prog w) A (.compLoop (.ListComp elt [⟨target, iter, ifs, 0⟩] scope pos) 0 it acc env) R s := by
  refine codeAny_loop rfl I (fun n s hI => ?_) n h
  show wpAny _ A ((compTurn (.ListComp elt [⟨target, iter, ifs, 0⟩] scope pos) 0 it acc env).onRaise (fun x => do noteFrame x env; theTreesLotGoes x)) _ _ s
  refine wpAny_noted ?_
  rw [compTurn_list]
  refine wpAny_bind (wpAny_standAt (wpAny_bind (wpAny_mono (turn n s hI) (fun r s₁ h₁ => ?_) fun _ _ h' => h')))
  cases r with
  | none => exact wpAny_pure h₁
  | some v =>
    refine wpAny_bind (wpAny_mono h₁ (fun _ s₁' h₁' => ?_) fun _ _ h' => h')
    refine wpAny_bind (wpAny_mono h₁' (fun _ s₂ h₂ => wpAny_bind (wpAny_mono h₂ (fun ok s₃ h₃ => ?_) fun _ _ h' => h')) fun _ _ h' => h')
    cases ok with
    | false => exact wpAny_pure ⟨rfl, h₃⟩
    | true =>
      exact wpAny_bind (wpAny_bind (wpAny_mono h₃ (fun x s₄ h₄ => wpAny_bind (wpAny_mono h₄ (fun _ s₅ h₅ => wpAny_pure (wpAny_pure ⟨rfl, h₅⟩)) fun _ _ h' => h')) fun _ _ h' => h'))

section
variable {X : Cx}

def tLc (wi : TI) (g : TG) (tt : TT) (te : TE) (vs : List Nat) : TE := fun σ H Q => wi σ H fun J H1 => ∀ D, H1 D = none → ∃ W : Nat → Nat → Hp → Prop, (∃ m, W 0 m (upd H1 D (.lst []))) ∧ ∀ i m H, W i m H →
  (J.stop i H ∧ Q (.ref D) H) ∨ (J.go i H ∧ ∃ Nx : Hp → Prop, (∀ H', Nx H' → ∃ m', m' < m ∧ W (i + 1) m' H') ∧ ∀ x H', J.yld i H x H' → g x (wipe σ vs) H' fun σ2 H2 => wipe σ2 vs = wipe σ vs ∧ tt σ2 H2 fun b H3 =>
    if b = true then te σ2 H3 fun y H4 => ∃ acc, H4 D = some (.lst acc) ∧ acc.length < sizeLine ∧ Nx (upd H4 D (.lst (acc ++ [y]))) else Nx H3)
theorem lc_core {pins : List (Addr × Obj)} {s : Shared} {σ : St} {H : Hp} {Q : VK} {elt tg iter : Expr} {ifs : List Expr} {scope : Scope} {own : List (Str × Nat)} {pos pos' : Pos} {wi : TI} {g : TG} {tt : TT} {te : TE} {use : Option (Value → Sem Unit)} {Qf : Value → Shared → Prop}
    (hc : X.calm = true) (hN : X.N.Nodup) (I : Inv X pins σ H s) (hi : PI X tg iter wi) (ok : BlkOk X.N X.env.scope scope own)
    (hg : ∀ (s : Shared) (H : Hp) (C : Addr) (cl : List (Str × Addr)) (fp : List Addr), PG (X.blk s H scope (compEnvC scope cl C X.env) fp) tg g) (ht : ∀ (s : Shared) (H : Hp) (C : Addr) (cl : List (Str × Addr)) (fp : List Addr), PTs (X.blk s H scope (compEnvC scope cl C X.env) fp) ifs tt)
    (he : ∀ (s : Shared) (H : Hp) (C : Addr) (cl : List (Str × Addr)) (fp : List Addr), PE (X.blk s H scope (compEnvC scope cl C X.env) fp) elt te) (hs : ∀ x, foldedSetIterable iter X.env x = pure x)
    (h : tLc wi g tt te (own.map (·.2)) σ H Q)
    (hRR : ∀ D C s' m H', Inv X pins σ H' s' → Q (.ref D) H' → s'.heap.Ns C m → FpOk X pins H' C → compPost (model X.prog X.w) X.A X.xe use Qf (.ref D) C (.ok .next) s') :
    wpAny (model X.prog X.w) X.A (comprehension (.ListComp elt [⟨tg, iter, ifs, 0⟩] scope pos) scope X.env pos' (newList []) false (eval iter X.env) use) Qf X.xe s := by
  have hfree : ∀ y ∈ scope.names, y.2 = .free → ∃ c, X.env.cells.lookup y.1 = some c := fun y hy e => by
    rcases ok.free y hy e with k | k
    · exact I.ok.has _ (.inl k)
    · exact I.ok.has _ (.inr k)
  refine wpAny_comprehension_free (use := use) rfl hs (closure_ok hfree) ok.kind (fun y hy e => by rw [ok.uniq y hy, e])
    (thn (hi pins s σ H _ I h) fun xv s1 hx => thn hx fun itv s2 h2 => ?_)
  obtain ⟨it, fp, tn, J, H2, e, I2, T, st2, f2, q⟩ := h2
  subst e
  refine wpAny_newObj_type (newEnv_comp ?_) (by show 0 ≤ sizeLine; decide)
  generalize hD : s2.heap.objs.size = D
  have hDn : H2 D = none := I2.hok.fresh (Nat.le_of_eq hD)
  obtain ⟨W, ⟨m0, w0⟩, turn⟩ := q D hDn
  generalize hs3 : ({ s2 with heap := s2.heap.push { cls := .type "list", data := .seq ([] : List Value).toArray } } : Shared) = s3
  have I3 : Inv X pins σ (upd H2 D (.lst [])) s3 := by
    rw [← hs3]
    refine I2.laid (t' := s2.toks) (fun b o e => Heap.get?_push_of_some _ e) (Nat.le_of_eq hD) ⟨Nat.zero_le _, [], 0, .nil, ?_⟩
    rw [← hD]
    exact Heap.get?_push_size _ rfl
  have h3 : s3.heap = s2.heap.push { cls := .type "list", data := .seq ([] : List Value).toArray } := by rw [← hs3]
  have sz : ∀ b ∈ fp, b < s2.heap.objs.size := fun b hb => by
    obtain ⟨o, e, _⟩ := T.obj _ _ st2 b hb
    exact Heap.lt_size e
  have f3 : ∀ b ∈ fp, FpOk X pins (upd H2 D (.lst [])) b ∧ b < s3.heap.objs.size := fun b hb => by
    have hlt := sz b hb
    refine ⟨⟨?_, (f2 b hb).2⟩, by rw [h3, Heap.size_push]; exact Nat.lt_succ_of_lt hlt⟩
    rw [upd_ne (by rw [← hD]; exact Nat.ne_of_lt hlt)]
    exact (f2 b hb).1
  have st3 : tn 0 s3.heap := T.keep _ _ _ st2 fun b _ o e => by rw [h3]; exact Heap.get?_push_of_some _ e
  have I4 := block_start I3 ok hN f3
  have pg := hg s3 (upd H2 D (.lst [])) s3.heap.objs.size (cellsFrom (s3.heap.objs.size + 1) scope.names (cloFrom X.env.cells scope.names [])) fp
  have pt := ht s3 (upd H2 D (.lst [])) s3.heap.objs.size (cellsFrom (s3.heap.objs.size + 1) scope.names (cloFrom X.env.cells scope.names [])) fp
  have pe := he s3 (upd H2 D (.lst [])) s3.heap.objs.size (cellsFrom (s3.heap.objs.size + 1) scope.names (cloFrom X.env.cells scope.names [])) fp
  show codeAny _ _ (.compStart (.ListComp elt [⟨tg, iter, ifs, 0⟩] scope pos) 0 (.ref it) (.ref D) (compEnvC scope (cellsFrom (s3.heap.objs.size + 1) scope.names (cloFrom X.env.cells scope.names [])) s3.heap.objs.size X.env)) (compPost (model X.prog X.w) X.A X.xe use Qf (.ref D) s3.heap.objs.size) { s3 with heap := pushCells (s3.heap.push { cls := .type "dict", data := .dict #[] }) scope.names }
  have nfp : ∀ b ∈ fp, (upd H2 D (.lst [])) b = none := fun b hb => (f3 b hb).1.1
  generalize hce : compEnvC scope (cellsFrom (s3.heap.objs.size + 1) scope.names (cloFrom X.env.cells scope.names [])) s3.heap.objs.size X.env = ce at I4 pg pt pe ⊢
  have cL : ce.locals = s3.heap.objs.size := by subst hce; rfl
  generalize hH3 : upd H2 D (.lst []) = H3 at I3 I4 pg pt pe w0 nfp f3
  generalize hs4 : ({ s3 with heap := pushCells (s3.heap.push { cls := .type "dict", data := .dict #[] }) scope.names } : Shared) = s4 at I4 ⊢
  have st4 : tn 0 s4.heap := T.keep _ _ _ st3 fun b _ o e => by rw [← hs4]; exact pushCells_keeps _ _ _ _ (Heap.get?_push_of_some _ e)
  have stat : ∀ {σ' : St} {H' : Hp} {s' : Shared}, Inv (X.blk s3 H3 scope ce fp) [] σ' H' s' → (∀ b ∈ fp, H' b = none) → ∀ b ∈ fp, FpOk (X.blk s3 H3 scope ce fp) [] H' b := fun {σ' H' s'} I' hn b hb =>
    ⟨hn b hb, (I'.ok.exf b hb).1, I'.ok.exfs b hb, .inl hb, fun x c e => (I'.ok.exf b hb).2 x c e, fun p hp => absurd (show p ∈ ([] : List (Addr × Obj)) ++ [] from hp) (by simp)⟩
  have loop : codeAny (model X.prog X.w) X.A (.compLoop (.ListComp elt [⟨tg, iter, ifs, 0⟩] scope pos) 0 (.ref it) (.ref D) ce) (compPost (model X.prog X.w) X.A X.xe use Qf (.ref D) s3.heap.objs.size) s4 := by
    refine compLoop_any (fun n s' => ∃ i H', Inv (X.blk s3 H3 scope ce fp) [] (wipe σ (own.map (·.2))) H' s' ∧ tn i s'.heap ∧ (∀ b ∈ fp, H' b = none) ∧ W i n H') ?_ m0 ⟨0, H3, I4, st4, nfp, w0⟩
    rintro n s5 ⟨i, H5, I5, st5, n5, w5⟩
    rcases turn i n H5 w5 with ⟨stop, qq⟩ | ⟨go, Nx, hNx, step⟩
    · have td := T.done (X.blk s3 H3 scope ce fp) rfl rfl rfl hc i [] s5 _ H5 (fun _ _ => False) I5 (stat I5 n5) st5 stop
      refine thnF td fun r s6 ⟨hr, I6⟩ => ?_
      subst hr
      have I7 : Inv X pins σ H5 s6 := I3.call' (ch := fp) I6.os I6.base I6.hok I6.bare fun b hb => ⟨(f3 b hb).1.2.2.2.1, (f3 b hb).1.2.1, (f3 b hb).1.2.2.2.2.1, (f3 b hb).1.2.2.2.2.2⟩
      have nC : H5 s3.heap.objs.size = none := by
        have z : H5 ce.locals = none := I6.free
        rw [cL] at z
        exact z
      obtain ⟨m, hn, _⟩ := I6.loc
      have hn : s6.heap.Ns ce.locals m := hn
      rw [cL] at hn
      exact hRR D s3.heap.objs.size s6 m H5 I7 qq hn (I3.fpOk (Nat.le_refl _) nC)
    · have ti := T.item (X.blk s3 H3 scope ce fp) rfl rfl rfl hc i [] s5 _ H5 (fun _ _ => False) I5 (stat I5 n5) st5 go
      refine thnF ti fun r s6 ⟨u, hr, h6⟩ => ?_
      subst hr
      refine thnF h6 fun _ s7 ⟨x, H7, I7, r7, y7, st7, n7⟩ => ?_
      have I7' := I7.pinned (stat I7 n7) (T.obj _ _ st7)
      refine thnF (pg _ s7 _ H7 x u _ I7' r7 (step x H7 y7)) fun _ s8 ⟨σ8, H8, I8, hw8, q8⟩ => ?_
      refine thnF (pt _ s8 σ8 H8 _ I8 q8) fun b s9 ⟨H9, I9, q9⟩ => ?_
      have fin : ∀ {s' : Shared} {H' : Hp}, Inv (X.blk s3 H3 scope ce fp) ([] ++ pinsAt fp s7.heap) σ8 H' s' → Nx H' → ∃ m, m < n ∧ ∃ i H', Inv (X.blk s3 H3 scope ce fp) [] (wipe σ (own.map (·.2))) H' s' ∧ tn i s'.heap ∧ (∀ b ∈ fp, H' b = none) ∧ W i m H' := fun {s' H'} I' nx => by
        obtain ⟨m', hm, w'⟩ := hNx H' nx
        have pin' : ∀ b ∈ fp, ∀ o, s7.heap.get? b = some o → s'.heap.get? b = some o ∧ H' b = none := fun b hb o e =>
          let z := I'.pin (b, o) (List.mem_append_right _ (List.mem_append_right _ (mem_pinsAt hb e)))
          ⟨z.1, z.2.1⟩
        have hl : (wipe σ (own.map (·.2))).length = σ8.length := by rw [← hw8, wipe_length]
        refine ⟨m', hm, i + 1, H', (I'.unpinned (pins := [])).weak hl (fun j v e => ?_), T.keep _ _ _ st7 fun b hb o e => (pin' b hb o e).1, fun b hb => ?_, w'⟩
        · rw [← hw8] at e
          exact (wipe_some e).1
        · obtain ⟨o, e, _⟩ := T.obj _ _ st7 b hb
          exact (pin' b hb o e).2
      cases b with
      | false =>
        simp only [Bool.false_eq_true, if_false] at q9 ⊢
        exact fin I9 q9
      | true =>
        simp only [if_true] at q9 ⊢
        refine thnF (pe _ s9 σ8 H9 _ I9 q9) fun z s10 ⟨yv, H10, I10, r10, acc, hD10, hz10, nx⟩ => ?_
        exact app_ok (X := X.blk s3 H3 scope ce fp) I10 hD10 hz10 r10 fun s11 I11 => fin I11 nx
  exact codeAny_compStart_list loop (T.self X.A 0 _ _ _ st4 loop)

theorem pe_lc {elt tg iter : Expr} {ifs : List Expr} {scope : Scope} {own : List (Str × Nat)} {pos : Pos} {wi : TI} {g : TG} {tt : TT} {te : TE} (hc : X.calm = true) (hN : X.N.Nodup) (hi : PI X tg iter wi) (ok : BlkOk X.N X.env.scope scope own)
    (hg : ∀ (s : Shared) (H : Hp) (C : Addr) (cl : List (Str × Addr)) (fp : List Addr), PG (X.blk s H scope (compEnvC scope cl C X.env) fp) tg g) (ht : ∀ (s : Shared) (H : Hp) (C : Addr) (cl : List (Str × Addr)) (fp : List Addr), PTs (X.blk s H scope (compEnvC scope cl C X.env) fp) ifs tt)
    (he : ∀ (s : Shared) (H : Hp) (C : Addr) (cl : List (Str × Addr)) (fp : List Addr), PE (X.blk s H scope (compEnvC scope cl C X.env) fp) elt te) (hs : ∀ x, foldedSetIterable iter X.env x = pure x := by intro _; rfl) :
    PE X (.ListComp elt [⟨tg, iter, ifs, 0⟩] scope pos) (tLc wi g tt te (own.map (·.2))) := by
  intro pins s σ H Q I h
  rw [eval_ListComp]
  refine lc_core hc hN I hi ok hg ht he hs h fun D C s' m H' I' q hn f => ⟨m, hn, fun h'' sb => ?_⟩
  obtain ⟨f0, f1, f2, f3, f4, f5⟩ := f
  exact ⟨.ref D, H', I'.turned (t' := s'.toks) (fun b o hb e => (sb.2 b hb).trans e) f0 f1 f3 f4 f5, rfl, q⟩

theorem ps_setLc {i : Nat} {y : Str} {py : Pos} {elt tg iter : Expr} {ifs : List Expr} {scope : Scope} {own : List (Str × Nat)} {pos spos : Pos} {wi : TI} {g : TG} {tt : TT} {te : TE} (hc : X.calm = true) (hN : X.N.Nodup) (hy : X.N[i]? = some y) (hyl : X.env.scope.names.lookup y = some .local)
    (hsw : swapsWith (.ListComp elt [⟨tg, iter, ifs, 0⟩] scope pos) (some (.Name y py)) spos.line X.env = pure true) (hi : PI X tg iter wi) (ok : BlkOk X.N X.env.scope scope own)
    (hg : ∀ (s : Shared) (H : Hp) (C : Addr) (cl : List (Str × Addr)) (fp : List Addr), PG (X.blk s H scope (compEnvC scope cl C X.env) fp) tg g) (ht : ∀ (s : Shared) (H : Hp) (C : Addr) (cl : List (Str × Addr)) (fp : List Addr), PTs (X.blk s H scope (compEnvC scope cl C X.env) fp) ifs tt)
    (he : ∀ (s : Shared) (H : Hp) (C : Addr) (cl : List (Str × Addr)) (fp : List Addr), PE (X.blk s H scope (compEnvC scope cl C X.env) fp) elt te) (hs : ∀ x, foldedSetIterable iter X.env x = pure x := by intro _; rfl) :
    PS X (.Assign [.Name y py] (.ListComp elt [⟨tg, iter, ifs, 0⟩] scope pos) spos) (tAsg (tLc wi g tt te (own.map (·.2))) (gName i)) := by
  intro pins s σ H D I h
  rw [exec_Assign_Name_used _ _ _ _ hsw]
  refine wpAny_bind (wpAny_standAt (wpAny_bind ?_))
  show wpAny _ X.A (do let _ ← comprehension (.ListComp elt [⟨tg, iter, ifs, 0⟩] scope pos) scope X.env (firstIterPos [⟨tg, iter, ifs, 0⟩] pos) (newList []) false (eval iter X.env) (some (assign (.Name y py) X.env))) _ _ s
  have h : tLc wi g tt te (own.map (·.2)) σ H (fun x H1 => gName i x σ H1 D.nx) := h
  refine wpAny_bind (thn (lc_core (Qf := fun _ s' => SP X pins D .next s') hc hN I hi ok hg ht he hs h fun L C s' m H' I' q hn f => ?_) fun _ s' hq => wpAny_pure (wpAny_pure hq))
  show wpAny _ _ (assign (.Name y py) X.env (.ref L)) _ _ _
  refine wpAny_assign_Name (store_ok2 (v := V.ref L) I' hN hy (.inl hyl) rfl (fun s2 I2 ⟨a, sb, ha⟩ => ?_) (.inr hyl))
  obtain ⟨f0, f1, f2, f3, f4, f5⟩ := f
  have haC : C ≠ a := by
    rcases ha with z | z
    · rw [z]; exact f1
    · exact fun e => f4 y a z e.symm
  refine ⟨m, hn.sameBut sb haC, fun h3 sb3 => ?_⟩
  exact ⟨_, H', I2.turned (t' := s2.toks) (fun b o hb e => (sb3.2 b hb).trans e) f0 f1 f3 f4 f5, q⟩
theorem sw_true {elt : Expr} {gs : List Comprehension} {scope : Scope} {pos py : Pos} {y : Str} {l : Nat} {env : Env} (hk : env.scope.kind = .function) (hy : env.scope.names.lookup y = some .local) (hl : (py.line == pos.line) = true)
    (ha : (scope.names.any fun (n, k) => n == y && (k == .local || k == .cell)) = false) : swapsWith (.ListComp elt gs scope pos) (some (.Name y py)) l env = pure true := by
  have ky : env.kindOf y = some .local := hy
  have hb : env.blockKind = .function := by unfold Env.blockKind; rw [hk]; rfl
  unfold swapsWith
  simp only [hb, ky, ha, Expr.pos, hl]
  rfl
end



theorem lc_range {lo : Int} {n : Nat} {g : TG} {tt : TT} {te : TE} {vs : List Nat} {σ : St} {H1 : Hp} {D : Addr} {Qd : Hp → Prop} (Pv : Nat → Hp → Prop) (h0 : Pv 0 (upd H1 D (.lst [])))
    (hs : ∀ i H, i < n → Pv i H → g (.int (lo + i)) (wipe σ vs) H fun σ2 H2 => wipe σ2 vs = wipe σ vs ∧ tt σ2 H2 fun b H3 =>
      if b = true then te σ2 H3 fun y H4 => ∃ acc, H4 D = some (.lst acc) ∧ acc.length < sizeLine ∧ Pv (i + 1) (upd H4 D (.lst (acc ++ [y]))) else Pv (i + 1) H3) (hd : ∀ H, Pv n H → Qd H) :
    ∃ W : Nat → Nat → Hp → Prop, (∃ m, W 0 m (upd H1 D (.lst []))) ∧ ∀ i m H, W i m H →
      ((Itr lo n).stop i H ∧ Qd H) ∨ ((Itr lo n).go i H ∧ ∃ Nx : Hp → Prop, (∀ H', Nx H' → ∃ m', m' < m ∧ W (i + 1) m' H') ∧ ∀ x H', (Itr lo n).yld i H x H' → g x (wipe σ vs) H' fun σ2 H2 => wipe σ2 vs = wipe σ vs ∧ tt σ2 H2 fun b H3 =>
        if b = true then te σ2 H3 fun y H4 => ∃ acc, H4 D = some (.lst acc) ∧ acc.length < sizeLine ∧ Nx (upd H4 D (.lst (acc ++ [y]))) else Nx H3) := by
  refine ⟨fun i m H => m = n - i ∧ i ≤ n ∧ Pv i H, ⟨n, by simp, Nat.zero_le _, h0⟩, ?_⟩
  rintro i m H ⟨rfl, hi, p⟩
  by_cases hlt : i < n
  · refine .inr ⟨hlt, Pv (i + 1), fun H' p' => ⟨n - (i + 1), by omega, rfl, hlt, p'⟩, fun x H' y => ?_⟩
    obtain ⟨e, y⟩ := y
    subst e y
    exact hs i _ hlt p
  · have e : i = n := by omega
    subst e
    exact .inl ⟨Nat.le_refl _, hd H p⟩

theorem lc_list {K : PySem.W.Frag} {a : Addr} {xs : List V} {g : TG} {tt : TT} {te : TE} {vs : List Nat} {σ : St} {H1 : Hp} {D : Addr} {Qd : Hp → Prop} (Pv : Nat → Hp → Prop) (h0 : Pv 0 (upd H1 D (.lst []))) (hl : ∀ i H, i ≤ xs.length → Pv i H → SqL K H a xs)
    (hs : ∀ i x H, xs[i]? = some x → Pv i H → g x (wipe σ vs) H fun σ2 H2 => wipe σ2 vs = wipe σ vs ∧ tt σ2 H2 fun b H3 =>
      if b = true then te σ2 H3 fun y H4 => ∃ acc, H4 D = some (.lst acc) ∧ acc.length < sizeLine ∧ Pv (i + 1) (upd H4 D (.lst (acc ++ [y]))) else Pv (i + 1) H3) (hd : ∀ H, Pv xs.length H → Qd H) :
    ∃ W : Nat → Nat → Hp → Prop, (∃ m, W 0 m (upd H1 D (.lst []))) ∧ ∀ i m H, W i m H →
      ((Itl K a).stop i H ∧ Qd H) ∨ ((Itl K a).go i H ∧ ∃ Nx : Hp → Prop, (∀ H', Nx H' → ∃ m', m' < m ∧ W (i + 1) m' H') ∧ ∀ x H', (Itl K a).yld i H x H' → g x (wipe σ vs) H' fun σ2 H2 => wipe σ2 vs = wipe σ vs ∧ tt σ2 H2 fun b H3 =>
        if b = true then te σ2 H3 fun y H4 => ∃ acc, H4 D = some (.lst acc) ∧ acc.length < sizeLine ∧ Nx (upd H4 D (.lst (acc ++ [y]))) else Nx H3) := by
  refine ⟨fun i m H => m = xs.length - i ∧ i ≤ xs.length ∧ Pv i H, ⟨xs.length, by simp, Nat.zero_le _, h0⟩, ?_⟩
  rintro i m H ⟨rfl, hi, p⟩
  have q := hl i H hi p
  by_cases hlt : i < xs.length
  · refine .inr ⟨⟨xs, xs[i], q, by simp [hlt]⟩, Pv (i + 1), fun H' p' => ⟨xs.length - (i + 1), by omega, rfl, hlt, p'⟩, fun x H' y => ?_⟩
    obtain ⟨e, y⟩ := y
    subst e
    exact hs i x _ (y xs q) p
  · have e : i = xs.length := by omega
    subst e
    exact .inl ⟨⟨xs, q, Nat.le_refl _⟩, hd H p⟩

def blkC (N : List Str) (sc scope : Scope) (own : List (Str × Nat)) : Bool :=
  (match scope.kind with | .function => true | _ => false) && (scope.names.all fun y => decide (scope.names.lookup y.1 = some y.2)) && (own.all fun p => decide (N[p.2]? = some p.1)) &&
    (scope.names.all fun y => match y.2 with
      | .free => (match sc.names.lookup y.1 with | some .cell => true | some .free => true | _ => false)
      | .local => decide (y.1 ∈ own.map (·.1)) || decide (y.1 ∉ N)
      | .cell => decide (y.1 ∈ own.map (·.1)) || decide (y.1 ∉ N)
      | _ => true)
theorem blkOk_by {N : List Str} {sc scope : Scope} {own : List (Str × Nat)} (h : blkC N sc scope own = true) : BlkOk N sc scope own := by
  unfold blkC at h
  simp only [Bool.and_eq_true, List.all_eq_true, decide_eq_true_eq] at h
  obtain ⟨⟨⟨h1, h2⟩, h3⟩, h4⟩ := h
  refine ⟨?_, h2, h3, fun y hy e => ?_, fun y hy e => ?_⟩
  · split at h1
    · assumption
    · cases h1
  · have q := h4 y hy
    simp only [e] at q
    split at q <;> first | exact .inl (by assumption) | exact .inr (by assumption) | cases q
  · have q := h4 y hy
    rcases e with e | e <;> (simp only [e, Bool.or_eq_true, decide_eq_true_eq] at q; exact q)
end L2

namespace L2
open PySem PySem.Spec PyProof.Rows

section
variable {prog : Program} {w : World} {A : Around} {R : Result → Shared → Prop} {s : Shared} {elt t0 i0 t1 i1 : Expr} {ifs0 ifs1 : List Expr} {scope : Scope} {pos : Pos} {it acc : Value} {env : Env}

end

section
variable {X : Cx}

end
end L2

namespace L2
open PySem PySem.Spec PyProof.Rows


section
variable {κ : Type} [DecidableEq κ]
def valV (kvs : List (κ × V)) (k : κ) : Option V := (kvs.find? fun kv => decide (kv.1 = k)).map (·.2)

def putK (kvs : List (κ × V)) (k : κ) (v : V) : List (κ × V) :=
  if (kvs.any fun kv => decide (kv.1 = k)) = true then kvs.map (fun kv => if kv.1 = k then (kv.1, v) else kv) else kvs ++ [(k, v)]
def dropK (kvs : List (κ × V)) (k : κ) : List (κ × V) := kvs.filter fun kv => decide (kv.1 ≠ k)

theorem valV_pos {p : κ × V} {r : List (κ × V)} {k : κ} (e : p.1 = k) : valV (p :: r) k = some p.2 := by simp [valV, List.find?_cons, e]
theorem valV_neg {p : κ × V} {r : List (κ × V)} {k : κ} (e : ¬ p.1 = k) : valV (p :: r) k = valV r k := by simp [valV, List.find?_cons, e]
theorem valV_any (k : κ) : ∀ kvs : List (κ × V), (kvs.any fun kv => decide (kv.1 = k)) = (valV kvs k).isSome
  | [] => rfl
  | p :: r => by
    rw [List.any_cons]
    by_cases e : p.1 = k
    · simp only [valV_pos e, decide_eq_true e, Bool.true_or, Option.isSome_some]
    · rw [valV_neg e, decide_eq_false e, Bool.false_or]; exact valV_any k r
theorem valV_map (k j : κ) (y : V) : ∀ kvs : List (κ × V), valV (kvs.map fun kv => if kv.1 = k then (kv.1, y) else kv) j = (valV kvs j).map fun x => if j = k then y else x
  | [] => rfl
  | p :: r => by
    have ih := valV_map k j y r
    rw [List.map_cons]
    by_cases h : p.1 = k
    · rw [if_pos h]
      by_cases e : p.1 = j
      · rw [valV_pos (p := (p.1, y)) e, valV_pos e, Option.map_some, if_pos (e.symm.trans h)]
      · rw [valV_neg (p := (p.1, y)) e, valV_neg e, ih]
    · rw [if_neg h]
      by_cases e : p.1 = j
      · rw [valV_pos (p := p) e, valV_pos e, Option.map_some, if_neg (fun z => h (e.trans z))]
      · rw [valV_neg (p := p) e, valV_neg e, ih]
theorem valV_snoc (k j : κ) (y : V) : ∀ kvs : List (κ × V), valV kvs k = none → valV (kvs ++ [(k, y)]) j = if j = k then some y else valV kvs j
  | [], _ => by
    by_cases e : k = j
    · rw [if_pos e.symm]; exact valV_pos (p := (k, y)) e
    · rw [if_neg (fun z => e z.symm)]; exact valV_neg (p := (k, y)) e
  | p :: r, hn => by
    rw [List.cons_append]
    have hk : ¬ p.1 = k := fun z => by rw [valV_pos z] at hn; cases hn
    rw [valV_neg hk] at hn
    have ih := valV_snoc k j y r hn
    by_cases e : p.1 = j
    · rw [valV_pos e, valV_pos e, if_neg (fun z => hk (e.trans z))]
    · rw [valV_neg e, valV_neg e, ih]
theorem valV_put (kvs : List (κ × V)) (k j : κ) (y : V) : valV (putK kvs k y) j = if j = k then some y else valV kvs j := by
  unfold putK
  by_cases a : (kvs.any fun kv => decide (kv.1 = k)) = true
  · rw [if_pos a, valV_map]
    rw [valV_any] at a
    by_cases e : j = k
    · obtain ⟨x, hx⟩ := Option.isSome_iff_exists.mp a
      rw [if_pos e, e, hx, Option.map_some, if_pos rfl]
    · rw [if_neg e]
      cases valV kvs j with
      | none => rfl
      | some x => rw [Option.map_some, if_neg e]
  · rw [if_neg a]
    refine valV_snoc k j y kvs ?_
    rw [valV_any] at a
    cases q : valV kvs k with
    | none => rfl
    | some x => rw [q] at a; exact (a rfl).elim
theorem putK_new {kvs : List (κ × V)} {k : κ} (v : V) (h : valV kvs k = none) : putK kvs k v = kvs ++ [(k, v)] := by
  unfold putK
  rw [valV_any, h]
  exact if_neg (by decide)

theorem RelO.isSome_eq {o : Option V} {u : Option Value} (r : RelO o u) : o.isSome = u.isSome := by
  cases o with
  | none => cases u with
    | none => rfl
    | some _ => exact (show False from r).elim
  | some _ => cases u with
    | none => exact (show False from r).elim
    | some _ => rfl
theorem RelO.getD {o : Option V} {u : Option Value} {d : V} {d' : Value} (r : RelO o u) (rd : RelV d d') : RelV (o.getD d) (u.getD d') := by
  cases o with
  | none => cases u with
    | none => exact rd
    | some _ => exact (show False from r).elim
  | some _ => cases u with
    | none => exact (show False from r).elim
    | some _ => exact r


theorem KV.val {kvs : List (κ × V)} {vs : List (κ × Value)} (r : KV kvs vs) (k : κ) : RelO (valV kvs k) (valueAt vs k) := by
  unfold KV at r
  induction r with
  | nil => exact True.intro
  | @cons p q ps qs h t ih =>
    obtain ⟨h1, h2⟩ := h
    by_cases e : p.1 = k
    · have e' : q.1 = k := h1.symm.trans e
      have b : valueAt (q :: qs) k = some q.2 := by simp [valueAt, List.find?_cons, e']
      rw [valV_pos e, b]; exact h2
    · have e' : ¬ q.1 = k := fun z => e (h1.trans z)
      have b : valueAt (q :: qs) k = valueAt qs k := by simp [valueAt, List.find?_cons, e']
      rw [valV_neg e, b]; exact ih
theorem KV.any {kvs : List (κ × V)} {vs : List (κ × Value)} (r : KV kvs vs) (k : κ) : (kvs.any fun kv => decide (kv.1 = k)) = vs.any fun kv => decide (kv.1 = k) := by
  unfold KV at r
  induction r with
  | nil => rfl
  | cons h t ih => rw [List.any_cons, List.any_cons, ih, h.1]
theorem KV.repl {kvs : List (κ × V)} {vs : List (κ × Value)} (r : KV kvs vs) (k : κ) {y : V} {u : Value} (ry : RelV y u) :
    KV (kvs.map fun kv => if kv.1 = k then (kv.1, y) else kv) (vs.map fun kv => if kv.1 = k then (kv.1, u) else kv) := by
  unfold KV at r ⊢
  induction r with
  | nil => exact .nil
  | @cons p q ps qs h t ih =>
    rw [List.map_cons, List.map_cons]
    refine .cons ?_ ih
    obtain ⟨h1, h2⟩ := h
    by_cases e : p.1 = k
    · rw [if_pos e, if_pos (h1.symm.trans e)]; exact ⟨h1, ry⟩
    · rw [if_neg e, if_neg (fun z => e (h1.trans z))]; exact ⟨h1, h2⟩
theorem KV.put {kvs : List (κ × V)} {vs : List (κ × Value)} (r : KV kvs vs) (k : κ) {y : V} {u : Value} (ry : RelV y u) : KV (putK kvs k y) (stored vs k u) := by
  unfold putK stored
  rw [r.any k]
  by_cases e : (vs.any fun kv => decide (kv.1 = k)) = true
  · rw [if_pos e, if_pos e]; exact r.repl k ry
  · rw [if_neg e, if_neg e]; exact Paired.snoc r ⟨rfl, ry⟩
theorem KV.drop {kvs : List (κ × V)} {vs : List (κ × Value)} (r : KV kvs vs) (k : κ) : KV (dropK kvs k) (without vs k) := by
  unfold KV at r ⊢
  unfold dropK without
  induction r with
  | nil => exact .nil
  | @cons p q ps qs h t ih =>
    obtain ⟨h1, h2⟩ := h
    rw [List.filter_cons, List.filter_cons]
    by_cases e : p.1 = k
    · have a : ¬ decide (p.1 ≠ k) = true := by simp [e]
      have b : ¬ decide (q.1 ≠ k) = true := by simp [h1.symm.trans e]
      rw [if_neg a, if_neg b]; exact ih
    · have e' : ¬ q.1 = k := fun z => e (h1.trans z)
      have a : decide (p.1 ≠ k) = true := by simp [e]
      have b : decide (q.1 ≠ k) = true := by simp [e']
      rw [if_pos a, if_pos b]; exact .cons ⟨h1, h2⟩ ih
theorem KV.length {kvs : List (κ × V)} {vs : List (κ × Value)} (r : KV kvs vs) : kvs.length = vs.length := Paired.length r
end



abbrev KT (H : Hp) : List (List Key × V) → List (List Key × Addr × Value) → Prop := Paired fun p q => p.1 = q.1 ∧ H q.2.1 = some (.tup (p.1.map kV)) ∧ RelV p.2 q.2.2
theorem KT.val {H : Hp} {kvs : List (List Key × V)} {xs : List (List Key × Addr × Value)} (r : KT H kvs xs) (k : List Key) : RelO (valV kvs k) ((atKey xs k).map (·.2)) := by
  induction r with
  | nil => exact True.intro
  | @cons p q ps qs h t ih =>
    obtain ⟨h1, _, h2⟩ := h
    by_cases e : p.1 = k
    · have e' : q.1 = k := h1.symm.trans e
      have b : atKey (q :: qs) k = some q.2 := by simp [atKey, List.find?_cons, e']
      rw [valV_pos e, b]; exact h2
    · have e' : ¬ q.1 = k := fun z => e (h1.trans z)
      have b : atKey (q :: qs) k = atKey qs k := by simp [atKey, List.find?_cons, e']
      rw [valV_neg e, b]; exact ih
theorem KT.repl {H : Hp} {kvs : List (List Key × V)} {xs : List (List Key × Addr × Value)} (r : KT H kvs xs) (k : List Key) {y : V} {u : Value} (ry : RelV y u) :
    KT H (kvs.map fun kv => if kv.1 = k then (kv.1, y) else kv) (xs.map (putAt k u)) := by
  induction r with
  | nil => exact .nil
  | @cons p q ps qs h t ih =>
    rw [List.map_cons, List.map_cons]
    refine .cons ?_ ih
    obtain ⟨h1, h2, h3⟩ := h
    unfold putAt
    by_cases e : p.1 = k
    · rw [if_pos e, if_pos (h1.symm.trans e)]; exact ⟨h1, h2, ry⟩
    · rw [if_neg e, if_neg (fun z => e (h1.trans z))]; exact ⟨h1, h2, h3⟩
theorem KT.put {H : Hp} {kvs : List (List Key × V)} {xs : List (List Key × Addr × Value)} (r : KT H kvs xs) (k : List Key) {b : Addr} {y : V} {u : Value} (hb : H b = some (.tup (k.map kV))) (ry : RelV y u) :
    KT H (putK kvs k y) (storedH xs k b u) := by
  have e : (kvs.any fun kv => decide (kv.1 = k)) = (atKey xs k).isSome := by
    rw [valV_any, (r.val k).isSome_eq, Option.isSome_map]
  unfold putK storedH
  rw [e]
  by_cases q : (atKey xs k).isSome = true
  · rw [if_pos q, if_pos q]; exact r.repl k ry
  · rw [if_neg q, if_neg q]; exact Paired.snoc r ⟨rfl, hb, ry⟩
theorem KT.keeps {H H' : Hp} {kvs : List (List Key × V)} {xs : List (List Key × Addr × Value)} (r : KT H kvs xs) (ht : ∀ b ys, H b = some (.tup ys) → H' b = some (.tup ys)) : KT H' kvs xs :=
  Paired.mapP r fun _ _ z => ⟨z.1, ht _ _ z.2.1, z.2.2⟩

section
variable {P : Program} {w : World} {H : Hp} {h : Heap} {a : Addr}
end


def DGet (H : Hp) (a : Addr) (y : V) (r : Option V) : Prop :=
  (∃ kvs k, Rd H a (.dK kvs) ∧ y = kV k ∧ r = valV kvs k) ∨ ∃ kvs k b, Rd H a (.dT kvs) ∧ y = .ref b ∧ H b = some (.tup (k.map kV)) ∧ r = valV kvs k

def DPut (H : Hp) (a : Addr) (y v : V) (H' : Hp) : Prop :=
  (∃ kvs k, H a = some (.dK kvs) ∧ y = kV k ∧ kvs.length < sizeLine ∧ H' = upd H a (.dK (putK kvs k v))) ∨
  ∃ kvs k b, H a = some (.dT kvs) ∧ y = .ref b ∧ H b = some (.tup (k.map kV)) ∧ kvs.length < sizeLine ∧ H' = upd H a (.dT (putK kvs k v))
theorem DGet.k {H : Hp} {a : Addr} {kvs : List (Key × V)} {k : Key} (e : H a = some (.dK kvs)) : DGet H a (kV k) (valV kvs k) := .inl ⟨kvs, k, .inl e, rfl, rfl⟩
theorem DGet.t {H : Hp} {a b : Addr} {kvs : List (List Key × V)} {k : List Key} (e : H a = some (.dT kvs)) (eb : H b = some (.tup (k.map kV))) : DGet H a (.ref b) (valV kvs k) := .inr ⟨kvs, k, b, .inl e, rfl, eb, rfl⟩
theorem DPut.k {H : Hp} {a : Addr} {kvs : List (Key × V)} {k : Key} {v : V} (e : H a = some (.dK kvs)) (hl : kvs.length < sizeLine) : DPut H a (kV k) v (upd H a (.dK (putK kvs k v))) := .inl ⟨kvs, k, e, rfl, hl, rfl⟩
theorem DPut.t {H : Hp} {a b : Addr} {kvs : List (List Key × V)} {k : List Key} {v : V} (e : H a = some (.dT kvs)) (eb : H b = some (.tup (k.map kV))) (hl : kvs.length < sizeLine) :
    DPut H a (.ref b) v (upd H a (.dT (putK kvs k v))) := .inr ⟨kvs, k, b, e, rfl, eb, hl, rfl⟩


section
variable {X : Cx} {pins : List (Addr × Obj)} {σ : St} {H : Hp} {s : Shared} {a : Addr} {y v : V} {u r : Value} {o : Option V} {A : Around} {E : Value → Shared → Prop}

theorem Inv.big (I : Inv X pins σ H s) : sysModules < s.heap.objs.size := by
  have h : mainGlobals < s.heap.objs.size := (I.mod.glob.keeps I.bk).lt
  exact Nat.lt_trans (by decide) h


end

section
variable {X : Cx} {pins : List (Addr × Obj)} {σ : St} {H : Hp} {s : Shared} {a : Addr} {kvs : List (Key × V)} {k : Key} {u : Value} {A : Around} {E : Value → Shared → Prop}

end




section
variable {X : Cx} {o i e value : Expr} {pos pos' tpos : Pos} {td ty tv : TE}
end



section
variable {X : Cx} {pos : Pos}
end


structure M1 (X : Cx) (o : Expr) (m : Str) (apos : Pos) (e : Expr) (cpos : Pos) : Prop where
  base : attributeBase o m X.env (eval o X.env) = eval o X.env
  few : ((backTo cpos (starEach [e] X.env)).all (fun x => !x.1) && (backToKw cpos (keywordEach [] X.env)).all (fun x => x.1.isSome)
    && decide (([e] : List Expr).length + ([] : List Keyword).length + (if ([] : List Keyword).isEmpty then 0 else 1) < 30)) = true
  line : (apos.endLine == cpos.line) = true
  trees : backTo cpos (starEach [e] X.env) = [(false, eval e X.env)]
structure M2 (X : Cx) (o : Expr) (m : Str) (apos : Pos) (e f : Expr) (cpos : Pos) : Prop where
  base : attributeBase o m X.env (eval o X.env) = eval o X.env
  few : ((backTo cpos (starEach [e, f] X.env)).all (fun x => !x.1) && (backToKw cpos (keywordEach [] X.env)).all (fun x => x.1.isSome)
    && decide (([e, f] : List Expr).length + ([] : List Keyword).length + (if ([] : List Keyword).isEmpty then 0 else 1) < 30)) = true
  line : (apos.endLine == cpos.line) = true
  trees : backTo cpos (starEach [e, f] X.env) = [(false, eval e X.env), (false, eval f X.env)]


section
variable {X : Cx} {pins : List (Addr × Obj)} {σ : St} {H : Hp} {s : Shared} {a : Addr} {y d : V} {u r : Value} {o : Option V} {A : Around} {E : Value → Shared → Prop}

end

section
variable {X : Cx} {o e f : Expr} {apos cpos : Pos} {td ty tx : TE}
end


section
variable {X : Cx} {pins : List (Addr × Obj)} {σ : St} {H : Hp} {s : Shared} {a : Addr} {kvs : List (Key × V)} {A : Around} {E : Value → Shared → Prop}
end


section
variable {X : Cx} {pins : List (Addr × Obj)} {σ : St} {H : Hp} {s : Shared} {a : Addr} {y : V} {u : Value} {A : Around} {E : Value → Shared → Prop}

end
end L2

namespace L2
open PySem PySem.Spec PyProof.Rows

section
variable {prog : Program} {w : World} {A : Around} {E : Value → Shared → Prop}

end

section
variable {X : Cx}
end
end L2

namespace L2
open PySem PySem.Spec PyProof.Rows

section
variable {X : Cx} {pins : List (Addr × Obj)} {σ : St} {H : Hp} {s : Shared} {h' : Heap}

theorem Inv.turnedL {t' : Nat} {ch : List Addr} (I : Inv X pins σ H s) (k : ∀ b o, b ∉ ch → s.heap.get? b = some o → h'.get? b = some o) (hf : ∀ b ∈ ch, FpOk X pins H b) : Inv X pins σ H { s with heap := h', toks := t' } := by
  have nit : ∀ b u, H b = some u → b ∉ ch := fun b u e z => by
    have q := (hf b z).1
    rw [q] at e; cases e
  refine I.step (g' := s.gens) (d' := s.drawn) (ch := ch) (fun b hb => ⟨(hf b hb).2.2.2.1, (hf b hb).2.1, (hf b hb).2.2.2.2.1, (hf b hb).2.2.2.2.2⟩) (fun b o _ _ hc e _ => k b o hc e) (fun b o _ _ hc e _ => ⟨o.slots, k b o hc e⟩)
    (fun _ _ _ _ n => n) (fun b o hc e => ⟨o, k b o hc e⟩) (fun _ _ e => e) (fun _ _ _ e => e) (fun b ps e => ⟨#[], by rw [e]; simp⟩) (fun m hm => ?_) (fun b u e => ?_) I.bare
  · obtain ⟨o, es, ep, ho, r⟩ := hm
    exact ⟨o, es, ep, k _ o (fun z => (hf _ z).2.1 rfl) ho, r⟩
  · refine (I.hok b u e).stay (fun c v hc q => k c v ?_ q) (fun _ q => q) fun _ _ q => q
    rcases hc with z | z
    · rw [z]; exact nit b u e
    · exact nit c _ z

theorem Inv.turnedNew {t' : Nat} {ch : List Addr} {T : Addr} {ob : HO} (I : Inv X pins σ H s) (k : ∀ b o, b ∉ ch → s.heap.get? b = some o → h'.get? b = some o) (hf : ∀ b ∈ ch, FpOk X pins H b) (hT : s.heap.objs.size ≤ T)
    (new : ObjOk X.prog X.w (upd H T ob) h' T ob) : Inv X pins σ (upd H T ob) { s with heap := h', toks := t' } := by
  have hn : H T = none := I.hok.fresh hT
  have nit : ∀ b u, H b = some u → b ∉ ch := fun b u e z => by
    have q := (hf b z).1
    rw [q] at e; cases e
  refine I.step (g' := s.gens) (d' := s.drawn) (ch := ch) (fun b hb => ⟨(hf b hb).2.2.2.1, (hf b hb).2.1, (hf b hb).2.2.2.2.1, (hf b hb).2.2.2.2.2⟩) (fun b o _ _ hc e _ => k b o hc e) (fun b o _ _ hc e _ => ⟨o.slots, k b o hc e⟩)
    (fun b o _ e n => ?_) (fun b o hc e => ⟨o, k b o hc e⟩) (fun b xs e => ?_) (fun b o u e => ?_) (fun b ps e => ⟨#[], ?_⟩) (fun m hm => ?_) (fun b u e => ?_) I.bare
  · rw [upd_ne (Nat.ne_of_lt (Nat.lt_of_lt_of_le (Heap.lt_size e) hT))]; exact n
  · rw [upd_ne (ne_of_none e hn)]; exact e
  · rw [upd_ne (ne_of_none e hn)]; exact e
  · rw [upd_ne (ne_of_none e hn), e]; simp
  · obtain ⟨o, es, ep, ho, r⟩ := hm
    exact ⟨o, es, ep, k _ o (fun z => (hf _ z).2.1 rfl) ho, r⟩
  · by_cases hb : b = T
    · subst hb
      rw [upd_same] at e
      cases e
      exact new
    · rw [upd_ne hb] at e
      refine (I.hok b u e).stay (fun c v hc q => k c v ?_ q) (fun c q => by rw [upd_ne (ne_of_none q hn)]; exact q) fun c xs q => by rw [upd_ne (ne_of_none q hn)]; exact q
      rcases hc with z | z
      · rw [z]; exact nit b u e
      · exact nit c _ z


end

section
variable {X : Cx}
end



def RgC (i j c : Int) (n : Nat) : Prop := c ≠ 0 ∧ c.natAbs < 1073741824 ∧ Builtin.Range.small i j c = true ∧ Builtin.Range.rangeSize i j c = n
theorem RgC.neg {i j : Int} (ha : -(2 ^ 62) ≤ i) (ha' : i < 2 ^ 62) (hb : -(2 ^ 62) ≤ j) (hb' : j < 2 ^ 62) : RgC i j (-1) (i - j).toNat :=
  ⟨by decide, by decide, PySem.W.small_down ha ha' hb hb', PySem.W.rangeSize_downNat i j⟩
section
variable {X : Cx} {tg : Expr}
end

section
variable {X : Cx} {tg : Expr}
end


section
variable {prog : Program} {w : World} {A : Around} {E : Value → Shared → Prop} {s : Shared}
end


section
variable {X : Cx} {pins : List (Addr × Obj)} {σ : St} {H : Hp} {s : Shared} {d : Addr} {o : Obj}
end


section
variable {P : Program} {w : World} {K : PySem.W.Frag} {tg : Expr} {d : Addr} {o : Obj} {es : Array DictEntry} {ep : Nat}
end



section
variable {X : Cx} {tg e : Expr} {td : TE} {apos cpos : Pos}
end



theorem boot_zip5 : bootBuiltins "zip" = some (.type "zip") := by decide +kernel

end L2

section 
namespace Bits
open PySem PyProof.Rows

end Bits
end 

section 
namespace TL
open PySem PySem.Builtin PySem.Builtin.Str PySem.StrLaws

abbrev tl (x : Str) : List Nat := x.cps.toList
def pre (S l : List Nat) : Bool := l.take S.length == S

def par (S : List Nat) : List Nat → List Nat → Option (List Nat × List Nat)
  | _, [] => none
  | acc, c :: r => if pre S (c :: r) = true then some (acc, (c :: r).drop S.length) else par S (acc ++ [c]) r

theorem pre_of_head {s c : Nat} (S r : List Nat) (h : c ≠ s) : pre (s :: S) (c :: r) = false := by
  cases hp : pre (s :: S) (c :: r) with
  | false => rfl
  | true =>
    have e : (c :: r).take (s :: S).length = s :: S := eq_of_beq hp
    rw [List.length_cons, List.take_succ_cons] at e
    injection e with e1 e2
    exact absurd e1 h
theorem free_of {s : Nat} {S p q : List Nat} (h : s ∉ p) : ∀ i, i < p.length → pre (s :: S) ((p ++ q).drop i) = false := fun i hi => by
  have hlt : i < (p ++ q).length := by rw [List.length_append]; omega
  have e : (p ++ q).drop i = (p ++ q)[i] :: (p ++ q).drop (i + 1) := List.drop_eq_getElem_cons hlt
  rw [e]
  refine pre_of_head _ _ fun z => h ?_
  have e1 : (p ++ q)[i] = p[i] := List.getElem_append_left hi
  rw [← z, e1]
  exact List.getElem_mem hi
end TL
end 

namespace L2
open PySem PySem.Spec PyProof.Rows

section
variable {X : Cx} {pins : List (Addr × Obj)} {σ : St} {H : Hp} {s : Shared} {Q : VK}
end

section
variable {X : Cx}


end

section
variable {X : Cx} {o e : Expr} {to te : TE}
end
end L2

namespace L2
open PySem PySem.Spec PyProof.Rows

section
variable {X : Cx}
end


theorem IsPart.raw {v : Value} {o : Option Int} (p : IsPart v o) : ∃ l : Option (Int × Tok), v = partValue l ∧ l.map (·.1) = o := by
  cases p with
  | none => exact ⟨none, rfl, rfl⟩
  | int i t => exact ⟨some (i, t), rfl, rfl⟩


end L2

namespace Att
open PySem PySem.W PySem.Calls PyProof.Rows


theorem ints_of_wellAll {P : Params} {h : Heap} : ∀ (ns : List Int) (vs : List Value), WellAll P h vs (ns.map WData.int) → IntsAre vs ns := by
  intro ns
  induction ns with
  | nil =>
    intro vs w
    rw [List.map_nil] at w
    cases w
    exact .nil
  | cons n ns ih =>
    intro vs w
    rw [List.map_cons] at w
    cases w with
    | cons a b =>
      cases a
      exact .cons _ _ (ih _ b)

theorem script_of {l : OpenLaw} {n : Nat} (hn : l.most = some n) {P : Params} {h : Heap} {args : List WData} {vals : List Value}
    (hpre : l.row.toRowW.claim.pre args = true) (hwl : WellAll P h vals args) :
    ∃ a vs ns, vals = [Value.ref a] ∧ args = [WData.list (ns.map WData.int)] ∧ h.get? a = some { cls := .type "list", data := .seq vs.toArray } ∧ IntsAre vs ns ∧ ns.length ≤ n := by
  have hsh : WShape.hasAll [] args [.list .int] = true := (pre_splitW hpre).1
  have hc : l.pre.holds [] { args := args } = true := (pre_splitW hpre).2
  obtain ⟨d, r, rfl, h1, h2⟩ := hasAllW_cons hsh
  obtain rfl := hasAllW_nil h2
  obtain ⟨xs, rfl, h3⟩ := hasW_list h1
  obtain ⟨ns, rfl⟩ := items_int h3
  have hlen : ns.length ≤ n := by
    unfold OpenLaw.pre at hc
    have h4 : (WTm.not (.lt (.lit (.int (n : Int))) (.len (.arg 0)))).holds [] { args := [.list (ns.map .int)] } = true := by
      have h4 := (holds_andW hc).1
      rw [hn] at h4
      exact h4
    have h5 := condW_of h4 (w_not (w_lt w_lit (w_len_list (w_arg rfl))))
    rw [List.length_map] at h5
    refine Nat.le_of_not_lt fun q => ?_
    have q' : (n : Int) < ((ns.length : Nat) : Int) := by omega
    first
      | (rw [decide_eq_true q'] at h5; exact absurd h5 (by decide))
      | (simp at h5; omega)
  cases hwl with
  | cons w1 w2 =>
    cases w2
    cases w1 with
    | list ho hall => exact ⟨_, _, ns, rfl, rfl, ho, ints_of_wellAll ns _ hall, hlen⟩

theorem post_true (l : OpenLaw) (args : List WData) : l.row.toRowW.claim.post args (.bool true) args = true :=
  postW_of (r := l.row.toRowW) (X := (true == true))
    (show WShape.has [] (.bool true) .bool = true by first | rfl | decide | simp [WShape.has, WShape.arms, WShape.armsAll])
    (show (WTm.eq .res (.lit (.bool true))).value [] { args := args, res := some (.bool true), after := args } = some (.bool (true == true)) from w_eq_bool (w_res rfl) w_lit) rfl


theorem attach_call {l : OpenLaw} {n : Nat} {q : Program} {loose : List Str} {XP : (Str → Option Value) → Heap → Prop} {YP : World → Heap → Prop} {d : DefRec}
    (hn : l.most = some n) (hdf : d.params.defaults = [])
    (call : ∀ (w : World) (s₀ s₁ : Shared) (mg mb : Str → Option Value) (fa : Addr) (o : Obj) (pm cd doc : Value) (a : Addr) (vs : List Value) (ns : List Int),
      Ground q loose [] XP w s₀ mg mb s₁.heap → YP w s₁.heap →
      s₁.heap.get? fa = some o → o.data = .func (docDef d.name d.params d.body d.scope pm cd doc) → s₁.heap.CodeRec cd d.name → mg d.name = some (.ref fa) →
      s₁.heap.get? a = some { cls := .type "list", data := .seq vs.toArray } → IntsAre vs ns → ns.length ≤ n → s₁.gens = #[] →
      codeAny (model l.prog w) callerA (.call (.ref fa) ⟨[.ref a], []⟩) (fun r s' => r = .ok (.ret (.bool true)) ∧ OldK s₁.heap s'.heap ∧ s'.os = s₁.os ∧ AllBare s'.gens) s₁) :
    WalkO q loose XP YP l.row.toRowW d [] (fun f vs => PySem.call f vs) := by
  intro w s₀ s₁ mg mb G Y fa o pm cd doc dV kV ho hd hcd hD hmg hg args vals as hpre hlay hrd hwl hlo
  obtain rfl : dV = .none := Dflts.none hD hdf
  obtain rfl : kV = .none := Dflts.noKw hD
  obtain ⟨a, vs, ns, rfl, rfl, hobj, hints, hlen⟩ := script_of hn hpre hwl
  refine enter_call (codeAny_mono (call w s₀ s₁ mg mb fa o pm cd doc a vs ns G Y ho (fd_plain hd) hcd hmg hobj hints hlen hg) fun r s' hq => ?_)
  obtain ⟨rfl, h2, h3, h4⟩ := hq
  exact ⟨.inl ⟨.bool true, .bool true, [], rfl, fun _ => rfl, .bool true, post_true l _, fun _ => ⟨List.Pairwise.nil, fun _ hm => (nomatch hm)⟩⟩, h2, h3, h4⟩


section
variable {prog : Program} {w : World} {A : Around} {E : Value → Shared → Prop} {s : Shared} {K : Frag}


end
end Att

namespace L2
open PySem PySem.Spec PyProof.Rows

theorem vals_ints : ∀ {vs : List Value} {ns : List Int}, IntsAre vs ns → Vals (ns.map V.int) vs
  | _, _, .nil => .nil
  | _, _, .cons n t h => .cons ⟨t, rfl⟩ (vals_ints h)


end L2

namespace L2
open PySem PySem.Spec PyProof.Rows

end L2




namespace L2
open PySem PySem.Spec PyProof.Rows



def defArgs (s : Stmt) : Arguments := match s with
  | .FunctionDef _ a _ _ _ _ _ _ _ _ => a
  | _ => { posonlyargs := [], args := [], vararg := none, kwonlyargs := [], kw_defaults := [], kwarg := none, defaults := [] }
def defBody (s : Stmt) : List Stmt := match s with
  | .FunctionDef _ _ b _ _ _ _ _ _ _ => b
  | _ => []
def defScope (s : Stmt) : Scope := match s with
  | .FunctionDef _ _ _ _ _ _ sc _ _ _ => sc
  | _ => { kind := .function, names := [], isGenerator := false, isCoroutine := false }


abbrev CX0 : CXT := fun _ _ _ _ _ _ => False
abbrev E0 : XK := fun _ _ _ => False
theorem pass0 {X : Cx} : Passes CX0 X E0 := fun _ _ _ _ _ _ _ h => h.elim


structure Fun (K : PySem.W.Frag) (x qual : Str) (st : Stmt) (f : Addr) (fd : FuncData) : Prop where
  ex : ∃ (oc : Value) (od : Option Addr) (kV doc pm : Value) (an : Option Addr) (cdv ct : Value) (osl : Array (Option Value)),
    fd = PySem.W.fnOf x qual (defArgs st) (defBody st) (defScope st) .none kV doc pm an cdv ct ∧ K.lookup f = some ⟨oc, od, .func fd, osl⟩ ∧ PySem.W.codeIn K cdv qual = true
  kp : PySem.W.keepIn K (.ref f) = true
section
variable {P : Program} {w : World} {K : PySem.W.Frag} {mg : Str → Option Value} {base : Heap}

theorem Fun.ok {x qual : Str} {st : Stmt} {f : Addr} {fd : FuncData} {N ps : List Str} {k : Nat} {sp : Sp} (F : Fun K x qual st f fd) (S : FnScope N ps (defScope st)) (len : ∀ vs H Q E, sp vs H Q E → vs.length = ps.length)
    (hbody : ∀ (cdv : Value) (A : Around) (outer : List Env) (s : Shared) (H : Hp) (vs : List V) (Q : VK) (E : XK), Room k (A.deeper (envOfC qual (defScope st) s.heap.objs.size f cdv)) → sp vs H Q E →
      ∃ t, PSs (cxOf CX0 P w K mg base N qual (defScope st) f cdv A outer s H E).nox (defBody st) t ∧ t { nx := fun _ H' => Q .non H', rt := Q } (start N vs) H) : FnOk P w K mg base CX0 (k + 1) f fd ps sp := by
  obtain ⟨oc, od, kV, doc, pm, an, cdv, ct, osl, rfl, lk, hcd⟩ := F.ex
  refine fn_of lk hcd S len fun A outer s H vs Q E hr hsp => ?_
  obtain ⟨t, h, q⟩ := hbody cdv A outer s H vs Q E hr hsp
  exact ⟨t, h.nox, q⟩

theorem Fun.binds {x qual : Str} {st : Stmt} {f : Addr} {fd : FuncData} {ps : List Str} (F : Fun K x qual st f fd)
    (h : ∀ (kV doc pm : Value) (an : Option Addr) (cdv ct : Value) (us : List Value), us.length = ps.length → bindArgs (PySem.W.fnOf x qual (defArgs st) (defBody st) (defScope st) .none kV doc pm an cdv ct) ⟨us, []⟩ = pure (ps.zip us)) : Binds K fd ps [] := by
  obtain ⟨oc, od, kV, doc, pm, an, cdv, ct, osl, rfl, lk, hcd⟩ := F.ex
  exact .all (h kV doc pm an cdv ct)
end
theorem small1000 {n : Nat} (h : n ≤ 1000) : n < sizeLine := Nat.lt_of_le_of_lt h (by decide)


section
variable {X : Cx}
theorem pv (i : Nat) {x : Str} {pos : Pos} (hN : X.N[i]? = some x := by rfl) (hv : Vis X.env.scope x := by first | exact Or.inl rfl | exact Or.inr (Or.inl rfl) | exact Or.inr (Or.inr rfl)) (hd : (x == ("__debug__" : Str)) = false := by decide)
    (hcd : (x == ("__classdict__" : Str)) = false := by decide) : PE X (.Name x pos) (tVar i) := pe_var hN hv hd hcd

end


theorem iteF {A B : Prop} (h : B) : if false = true then A else B := by
  rw [if_neg Bool.false_ne_true]
  exact h
theorem iteT {A B : Prop} (h : A) : if true = true then A else B := by
  rw [if_pos rfl]
  exact h
theorem ite2 {c A B : Prop} [Decidable c] (h1 : c → A) (h2 : ¬ c → B) : if c then A else B := by
  by_cases h : c
  · rw [if_pos h]
    exact h1 h
  · rw [if_neg h]
    exact h2 h
theorem iteNS {c A B : Prop} [Decidable c] (hc : c) (h : B) : if (!decide c) = true then A else B := by
  rw [decide_eq_true hc]
  exact iteF h



def Same (H H' : Hp) : Prop := ∀ b o, H b = some o → H' b = some o
theorem Same.refl (H : Hp) : Same H H := fun _ _ h => h
theorem Same.trans {H H1 H2 : Hp} (a : Same H H1) (b : Same H1 H2) : Same H H2 := fun c o h => b c o (a c o h)
theorem Same.free {H H' : Hp} (e : Same H H') {l : Addr} (h : H' l = Option.none) : H l = Option.none := by
  cases q : H l with
  | none => rfl
  | some o =>
    rw [e l o q] at h
    cases h
theorem Same.seq {K : PySem.W.Frag} {H H' : Hp} {a : Addr} {xs : List V} (e : Same H H') (h : SqL K H a xs) : SqL K H' a xs := by
  rcases h with (h | ⟨o, h⟩) | h
  · exact .inl (.inl (e _ _ h))
  · exact .inl (.inr ⟨o, e _ _ h⟩)
  · exact .inr h


section
variable {κ : Type} [DecidableEq κ]
end

theorem at_of {xs : List V} {z : Int} {j : Nat} {v : V} (e : z = (j : Int)) (h : xs[j]? = some v) : atI xs z = some v := by
  rw [e]
  exact atI_nat h
theorem Same.made {H H1 : Hp} {x dx C : Addr} (nx : H x = Option.none) (nd : H dx = Option.none) (k : ∀ b o, (upd (upd H dx (.own x)) x (.ins C dx [])) b = some o → b ≠ x → H1 b = some o) : Same H H1 := fun b o e =>
  k b o (by rw [upd_ne (ne_of_none e nx), upd_ne (ne_of_none e nd)]; exact e) (ne_of_none e nx)
end L2

set_option maxHeartbeats 4000000
namespace L2
open PySem PySem.Spec PyProof.Rows



def TbOk (P : Addr) (ps : Array Value) (h : Heap) : Prop := ∃ more : Array Value, h.get? P = some { cls := .none, data := .fields (ps ++ more) } ∧ TriplesOk (ps ++ more).toList
abbrev Tb (P : Addr) (ps : Array Value) : HO := .ext (TbOk P ps)
theorem TbOk.stay {P : Addr} {ps : Array Value} : ∀ h1 h2 : Heap, TbOk P ps h1 → (∀ o, h1.get? P = some o → h2.get? P = some o) → TbOk P ps h2 := fun h1 h2 ⟨m, e, t⟩ k => ⟨m, k _ e, t⟩
theorem upd_id {H : Hp} {a : Addr} {o : HO} (h : H a = some o) : upd H a o = H := by
  funext b
  by_cases e : b = a
  · subst e; rw [upd_same, h]
  · rw [upd_ne e]

structure CodeK (K : PySem.W.Frag) (cdv : Value) (c P : Addr) : Prop where
  cd : cdv = .ref c
  ob : ∃ (o : Obj) (vs : Array Value) (file : Str) (tf : Tok) (flags : Int) (tg : Tok) (inF : Bool) (text : Int) (tt : Tok), K.lookup c = some o ∧ o.cls = .type "code" ∧ o.data = .fields vs ∧ vs[11]? = some (.ref P) ∧
    vs.getD 18 .none = .str file tf ∧ vs.getD 7 .none = .int flags tg ∧ vs.getD 9 .none = .bool inF ∧ vs.getD 10 .none = .int text tt
  ne : c ≠ P

structure BmK (K : PySem.W.Frag) (mg : Str → Option Value) : Prop where
  ex : ∃ (bm : Addr) (ob : Obj), mg "__builtins__" = some (.ref bm) ∧ bm ≠ builtinsNs ∧ K.lookup bm = some ob ∧ ob.cls = .type "module" ∧ ob.dict = some builtinsNs ∧ ob.data = .plain

section
variable {X : Cx} {pins : List (Addr × Obj)} {σ : St} {H : Hp} {s : Shared} {A : Around} {E : Value → Shared → Prop} {c P : Addr} {ps : Array Value}
theorem genCode_ok {Q : Value → Shared → Prop} {pos : Pos} {q : Str} {scope : Scope} (I : Inv X pins σ H s) (hc : CodeK X.K X.env.code c P) (hP : H P = some (Tb P ps))
    (h : ∀ code s', Inv X pins σ H s' → s'.gens = s.gens → (∀ b o, b ≠ P → s.heap.get? b = some o → s'.heap.get? b = some o) → Q code s') : wpAny (model X.prog X.w) A (genexprCode X.env pos q scope) Q E s := by
  obtain ⟨⟨more, hp, ht⟩, _, _⟩ := (show ObjOk X.prog X.w H s.heap P (.ext (TbOk P ps)) from I.hok P _ hP)
  obtain ⟨o, vs, file, tf, flags, tg, inF, text, tt, hk, hcl, hd, h11, h18, h7, h9, h10⟩ := hc.ob
  have ho := I.kIn c o hk
  have h11' : vs.getD 11 .none = .ref P := by
    simp [Array.getD_eq_getD_getElem?, h11]
  have code : s.heap.IsCode c P (ps ++ more) := ⟨o, vs, file, tf, flags, tg, inF, text, tt, _, ho, hd, h11', h18, h7, h9, h10, hp, rfl, ht, hc.ne⟩
  have tab : s.heap.TableAt c P (ps ++ more) := ⟨⟨o, vs, ho, hcl, hd, h11⟩, hp⟩
  cases e : codeAmong pos (ps ++ more).toList with
  | some cv => exact wpAny_genexprCode_hit hc.cd code e (h cv s I rfl fun _ _ _ z => z)
  | none =>
    refine wpAny_genexprCodeX hc.cd code tab e fun c' h' tk ext _ _ code' _ tab' _ => ?_
    refine h _ _ ?_ rfl fun b o hb z => ext b o hb z
    obtain ⟨_, _, _, _, _, _, _, _, _, op, _, _, _, _, _, _, _, hop, hopd, htr, _⟩ := code'
    have new : ObjOk X.prog X.w (upd H P (Tb P ps)) h' P (Tb P ps) := ⟨⟨more ++ #[rawInt pos.line, rawInt pos.col, .ref c'], by rw [← Array.append_assoc]; exact tab'.2, by rw [← Array.append_assoc]; exact htr⟩, ⟨_, tab'.2⟩, TbOk.stay⟩
    have w := I.write (t' := tk) (h' := h') (o := Tb P ps) (by rw [hP]; trivial) (.inl rfl) (fun b u hb z => ext b u hb z) ⟨_, tab'.2⟩ new
    rw [upd_id hP] at w
    exact w
theorem bfor_ok {Q : Addr → Shared → Prop} (I : Inv X pins σ H s) (hb : BmK X.K X.mg) (h : Q builtinsNs s) : wpAny (model X.prog X.w) A (builtinsFor X.env.globals X.env.builtins) Q E s := by
  obtain ⟨bm, ob, e, ne, hk, h1, h2, h3⟩ := hb.ex
  rw [I.ok.glob]
  exact wpAny_builtinsFor (I.mod.glob.keeps I.bk) e ne (I.kIn _ _ hk) h1 h2 h3 h

theorem Inv.gens (I : Inv X pins σ H s) {g' : Array GenState} (hg : AllBare g') : Inv X pins σ H { s with gens := g' } :=
  ⟨I.ok, I.os, hg, I.base, I.loc, I.cell, I.free, I.freeC, I.pin, I.hok, I.len⟩
theorem AllBare.set {gs : Array GenState} {g : Nat} {x : GenState} (h : AllBare gs) (hx : x.bare = true) : AllBare (gs.setIfInBounds g x) := by
  intro y hy
  rcases Array.mem_or_eq_of_mem_setIfInBounds hy with z | z
  · exact h _ z
  · rw [z]; exact hx
theorem Inv.setGen (I : Inv X pins σ H s) {g : Nat} {x : GenState} (hx : x.bare = true) : Inv X pins σ H (s.setGen g x) := I.gens (AllBare.set I.bare hx)
end


abbrev Cx.genc (X : Cx) (A' : Around) (s : Shared) (H : Hp) (cenv : Env) (fp : List Addr) (pn : List (Addr × Obj)) : Cx :=
  { X with A := A', s_0 := s, H_0 := H, env := cenv, outer := X.stack, stack := cenv :: X.stack, ex := fp, fn := fun _ => false, pn := pn, xe := fun _ _ => False }

structure GenScope (scope : Scope) : Prop where
  co : scope.isCoroutine = false
  nocell : ∀ y ∈ scope.names, y.2 ≠ .cell
  dot : scope.names.lookup (".0" : Str) = some NameKind.local

section
variable {X : Cx} {pins : List (Addr × Obj)} {σ : St} {H : Hp} {s : Shared}
theorem gen_start {scope : Scope} {own : List (Str × Nat)} {fp : List Addr} {A' : Around} {h' : Heap} {it : Value} {code : Value} {gs : Array GenState} {tk : Nat} {go : Obj} (hc : X.calm = true) (I : Inv X pins σ H s) (ok : BlkOk X.N X.env.scope scope own) (gk : GenScope scope) (hN : X.N.Nodup)
    (hfp : ∀ b ∈ fp, FpOk X pins H b ∧ b < s.heap.objs.size) (hA : A'.handled = none) (hfr : A'.frames = some (genEnv scope (cloFrom X.env.cells scope.names []) s.heap.objs.size code builtinsNs X.env :: X.stack))
    (hns : h'.Ns s.heap.objs.size (fun y => if y = (".0" : Str) then some it else none)) (hsb : Heap.SameBut s.heap.objs.size (s.heap.push { cls := .type "frame", data := .dict #[] }) h')
    (hgo : go.isFreed = false) (hgd : ∀ v, go.data ≠ .cell v) (hg : AllBare gs) :
    Inv (X.genc A' s H (genEnv scope (cloFrom X.env.cells scope.names []) s.heap.objs.size code builtinsNs X.env) fp [(h'.objs.size, go)]) [] (wipe σ (own.map (·.2))) H { s with gens := gs, toks := tk, heap := h'.push go } := by
  have hfree : ∀ y ∈ scope.names, y.2 = .free → ∃ c, X.env.cells.lookup y.1 = some c := fun y hy e => by
    rcases ok.free y hy e with k | k
    · exact I.ok.has _ (.inl k)
    · exact I.ok.has _ (.inr k)
  have kp1 : ∀ b o, s.heap.get? b = some o → h'.get? b = some o := fun b o e => (hsb.2 b (Nat.ne_of_lt (Heap.lt_size e))).trans (Heap.get?_push_of_some _ e)
  have kp : ∀ b o, s.heap.get? b = some o → (h'.push go).get? b = some o := fun b o e => Heap.get?_push_of_some _ (kp1 b o e)
  have hsz : h'.objs.size = s.heap.objs.size + 1 := by rw [hsb.1, Heap.size_push]
  generalize hcenv : genEnv scope (cloFrom X.env.cells scope.names []) s.heap.objs.size code builtinsNs X.env = cenv at hfr
  have hL : cenv.locals = s.heap.objs.size := by rw [← hcenv]; rfl
  have hcl : cenv.cells = cloFrom X.env.cells scope.names [] := by rw [← hcenv]; rfl
  have hsc : cenv.scope = scope := by rw [← hcenv]; rfl
  have cm : ∀ {y c}, (y, c) ∈ cloFrom X.env.cells scope.names [] → (y, NameKind.free) ∈ scope.names ∧ X.env.cells.lookup y = some c ∧ c < s.heap.objs.size := fun {y c} hm => by
    rcases cloFrom_mem hm with hm | ⟨h1, rfl⟩
    · cases hm
    · obtain ⟨c, hc⟩ := hfree _ h1 rfl
      rw [hc]
      obtain ⟨w, z⟩ := I.cell _ _ hc
      exact ⟨h1, rfl, z.lt⟩
  have mem : ∀ {y c}, cenv.cells.lookup y = some c → (y, NameKind.free) ∈ scope.names ∧ X.env.cells.lookup y = some c ∧ c < s.heap.objs.size := fun {y c} e => by
    rw [hcl] at e
    exact cm (PySem.mem_of_lookup e)
  have look : ∀ {y}, scope.names.lookup y = some .free → ∃ c, cenv.cells.lookup y = some c ∧ X.env.cells.lookup y = some c := fun {y} hl => by
    have hy : (y, NameKind.free) ∈ scope.names := PySem.mem_of_lookup hl
    obtain ⟨c', e'⟩ := mem_lookup (cloFrom_has (cells := X.env.cells) (acc := []) hy)
    rw [← hcl] at e'
    exact ⟨c', e', (mem e').2.1⟩
  have okB : (X.genc A' s H cenv fp [(h'.objs.size, go)]).Ok := by
    refine ⟨I.ok.mod, by show cenv.scope.kind = _; rw [hsc]; exact ok.kind, by show cenv.globals = _; rw [← hcenv]; exact I.ok.glob, by show cenv.builtins = _; rw [← hcenv]; rfl, by show s.heap.objs.size ≤ cenv.locals; rw [hL]; exact Nat.le_refl _,
      fun y z c e1 e2 => I.ok.inj y z c (mem e1).2.1 (mem e2).2.1, fun y hy => ?_, fun y c z e => (by cases z), fun _ => hA, hfr, .inr ⟨rfl, by show cenv.frame = some cenv.locals; rw [← hcenv]; rfl⟩, fun b hb => ⟨?_, fun y c e z => ?_⟩, I.bs, Nat.le_trans I.ok.bsz I.sz, fun b o e hb => ?_, fun b hb z => ?_, I.stack, I.stkFree⟩
    · show ∃ c, cenv.cells.lookup y = some c
      have hy : cenv.scope.names.lookup y = some .cell ∨ cenv.scope.names.lookup y = some .free := hy
      rw [hsc] at hy
      rcases hy with hy | hy
      · exact absurd rfl (gk.nocell _ (PySem.mem_of_lookup hy))
      · obtain ⟨c, h1, _⟩ := look hy
        exact ⟨c, h1⟩
    · show b ≠ cenv.locals
      rw [hL]; exact Nat.ne_of_lt (hfp b hb).2
    · exact (hfp b hb).1.2.2.2.2.1 y c (mem e).2.1 z
    · rcases (hfp b hb).1.2.2.2.1 with z | z
      · exact I.ok.noex b o e z
      · exact absurd (Nat.lt_of_lt_of_le (Heap.lt_size e) (Nat.le_trans I.ok.bsz z)) (Nat.lt_irrefl _)
    · rcases List.mem_cons.mp (I.stkSub b z) with z | z
      · exact (hfp b hb).1.2.1 z
      · exact (hfp b hb).1.2.2.1 z
  refine ⟨okB, rfl, hg, Un.kept kp, ⟨fun y => if y = (".0" : Str) then some it else none, ?_, fun i y av e1 e2 e3 => ?_⟩, fun y c e => ?_, ?_, fun y c e => ?_, fun p hp => ?_, I.hok.kept kp, by rw [wipe_length]; exact I.len⟩
  · show Heap.Ns _ cenv.locals _
    rw [hL]
    exact hns.push _
  · obtain ⟨e2, hne⟩ := wipe_some e2
    have e3 : Vis cenv.scope y := e3
    rw [hsc] at e3
    have hfr : scope.names.lookup y = some .free := by
      have no : ∀ k, scope.names.lookup y = some k → k = .local ∨ k = .cell → False := fun k e hh => by
        rcases ok.own _ (PySem.mem_of_lookup e) hh with e' | e'
        · obtain ⟨p, hp, hpy⟩ := List.mem_map.mp e'
          have e3 := ok.ix p hp
          have : p.1 = y := hpy
          rw [this] at e3
          exact hne (List.mem_map.mpr ⟨p, hp, nodup_ix hN e3 e1⟩)
        · exact e' (List.mem_of_getElem? e1)
      rcases e3 with e3 | e3 | e3
      · exact (no _ e3 (.inl rfl)).elim
      · exact (no _ e3 (.inr rfl)).elim
      · exact e3
    obtain ⟨m, hn, hl⟩ := I.loc
    have hvis : Vis X.env.scope y := (ok.free _ (PySem.mem_of_lookup hfr) rfl).elim (fun k => .inr (.inl k)) (fun k => .inr (.inr k))
    obtain ⟨w, r, q⟩ := hl i y av e1 e2 hvis
    have hfr' : cenv.kindOf y = some .free := by
      show cenv.scope.names.lookup y = some .free
      rw [hsc]; exact hfr
    refine ⟨w, r, .inr ⟨.inr hfr', ?_⟩⟩
    obtain ⟨c, h1, h2⟩ := look hfr
    rcases q with ⟨k, _⟩ | ⟨_, c', e', z⟩
    · have k : X.env.scope.names.lookup y = some .local := k
      rcases ok.free _ (PySem.mem_of_lookup hfr) rfl with k' | k' <;> rw [show X.env.scope.names.lookup y = _ from k'] at k <;> cases k
    · rw [h2] at e'; cases e'
      exact ⟨c, h1, z.keeps kp⟩
  · have e : cenv.cells.lookup y = some c := e
    obtain ⟨w, z⟩ := I.cell y c (mem e).2.1
    exact ⟨w, z.keeps kp⟩
  · show H cenv.locals = none
    rw [hL]; exact I.hok.fresh (Nat.le_refl _)
  · have e : cenv.cells.lookup y = some c := e
    exact I.freeC y c (mem e).2.1
  · have e : p = (h'.objs.size, go) := by simpa using hp
    subst e
    refine ⟨Heap.get?_push_size _ hgo, I.hok.fresh (by rw [hsz]; exact Nat.le_succ _), ?_, fun z => ?_, hgd⟩
    · show h'.objs.size ≠ cenv.locals
      rw [hL, hsz]; exact Nat.succ_ne_self _
    · have hz : h'.objs.size ∈ frs X.stack := z
      rcases List.mem_cons.mp (I.stkSub _ hz) with z | z
      · rw [hsz] at z
        exact absurd I.lt (by rw [← z]; exact Nat.not_lt.mpr (Nat.le_succ _))
      · exact I.nofs (by rw [hsz]; exact Nat.le_succ _) z
end
end L2

namespace GM
open PySem
theorem Runs.gens_le {M : Model} {Γ : Ctx} {p : Pos} {t : Sem PySem.Fin} {fs : List Frame} {s s' : Shared} {e : End} (h : Runs M Γ p t fs s e s') : s.gens.size ≤ s'.gens.size := by
  induction h <;> (try simp only [Shared.setGen, Array.size_setIfInBounds, Array.size_push] at *) <;> omega
theorem Wakes.gens_le {M : Model} {Γ : Ctx} {p : Pos} {g : Nat} {r : Resume} {s s' : Shared} {res : GenResult} (h : Wakes M Γ p g r s res s') : s.gens.size ≤ s'.gens.size := by
  have key : ∀ {c : Ctx} {p : Pos} {t : Sem PySem.Fin} {fs : List Frame} {x : GenState} {s₁ : Shared} {e : End}, Runs M c p t fs (s.setGen g .running) e s₁ → s.gens.size ≤ (s₁.setGen g x).gens.size := fun hr => by
    have := Runs.gens_le hr
    simpa [Shared.setGen] using this
  unfold Wakes at h
  split at h
  · exact h.elim
  · split at h
    · obtain ⟨e₁, s₁, hr, _, _, rfl⟩ := h; exact key hr
    · rw [h.2]; first | exact Nat.le_refl _ | simp [Shared.setGen]
    · rw [h.2]; first | exact Nat.le_refl _ | simp [Shared.setGen]
  · obtain ⟨e₁, s₁, hr, _, _, rfl⟩ := h; exact key hr
  · rw [h.2]; first | exact Nat.le_refl _ | simp [Shared.setGen]
  · rw [h.2]; first | exact Nat.le_refl _ | simp [Shared.setGen]
theorem wp_gens {α : Type} (M : Model) (Γ : Ctx) (n : Nat) (t : Sem α) : ∀ (Q : α → Pos → Shared → Prop) (E : Value → Pos → Shared → Prop) (p : Pos) (s : Shared), n ≤ s.gens.size → Sem.wp M Γ t Q E p s →
    Sem.wp M Γ t (fun a p' s' => n ≤ s'.gens.size ∧ Q a p' s') (fun e p' s' => n ≤ s'.gens.size ∧ E e p' s') p s := by
  induction t with
  | call c hd _ _ k ih => rintro Q E p s hn ⟨r, s', run, h⟩; exact ⟨r, s', run, ih r Q E p _ (Nat.le_trans hn (Runs.gens_le run)) h⟩
  | resume g r _ k ih => rintro Q E p s hn ⟨res, s', wake, h⟩; exact ⟨res, s', wake, ih res Q E p s' (Nat.le_trans hn (Wakes.gens_le wake)) h⟩
  | newGen c k ih => exact fun Q E p s hn h => ih _ Q E p _ (Nat.le_trans hn (by simp)) h
  | _ =>
    intro Q E p s hn h
    first
      | exact ⟨hn, h⟩
      | exact h
      | (rename_i ih
         first
           | exact ih _ Q E _ _ hn h
           | exact ⟨h.1, ih _ Q E _ _ hn h.2⟩
           | exact h.elim fun o g => ⟨o, g.1, ih _ Q E _ _ hn g.2⟩)
theorem wpAny_with_gens {α : Type} {M : Model} {A : Around} {s : Shared} {t : Sem α} {Q : α → Shared → Prop} {E : Value → Shared → Prop} {n : Nat} (hn : n ≤ s.gens.size)
    (h : wpAny M A t (fun a s' => n ≤ s'.gens.size → Q a s') (fun e s' => n ≤ s'.gens.size → E e s') s) : wpAny M A t Q E s :=
  wpAny_mono (fun Γ p hΓ => wp_gens M Γ n t _ _ p s hn (h Γ p hΓ) : wpAny M A t (fun a s' => n ≤ s'.gens.size ∧ (n ≤ s'.gens.size → Q a s')) (fun e s' => n ≤ s'.gens.size ∧ (n ≤ s'.gens.size → E e s')) s) (fun _ _ x => x.2 x.1) (fun _ _ x => x.2 x.1)
end GM
namespace L2
open PySem PySem.Spec PyProof.Rows


def GTurn (J : It) (g : TG) (tt : TT) (te : TE) (vs : List Nat) (σw : St) (W : Nat → Nat → Hp → Prop) (En : Hp → Prop) (Yd : Nat → Nat → V → Hp → Prop) : Prop :=
  ∀ i m H, W i m H → (J.stop i H ∧ En H) ∨ (J.go i H ∧ ∀ x H', J.yld i H x H' → g x σw H' fun σ2 H2 => wipe σ2 vs = σw ∧ tt σ2 H2 fun b H3 => if b = true then te σ2 H3 (Yd i m) else ∃ m', m' < m ∧ W (i + 1) m' H3)

def GRdy (Xg : Cx) (ks : List Addr) (σw : St) (fp : List Addr) (tn : Nat → Heap → Prop) (W : List (Addr × Obj) → Nat → Nat → Hp → Prop) (i m : Nat) (s : Shared) : Prop :=
  ∃ m' H, m' < m ∧ Inv Xg (pinsAt ks s.heap) σw H s ∧ tn i s.heap ∧ (∀ b ∈ fp, H b = none) ∧ W (pinsAt ks s.heap) i m' H
def GY (Xg : Cx) (ks : List Addr) (σw : St) (fp : List Addr) (tn : Nat → Heap → Prop) (W : List (Addr × Obj) → Nat → Nat → Hp → Prop) (Yd : List (Addr × Obj) → Nat → Nat → V → Hp → Prop) : Protocol := fun k s₀ v s kap =>
  ∃ i m y H, m ≤ k ∧ Yd (pinsAt ks s₀.heap) i m y H ∧ RelV y v ∧ Inv Xg (pinsAt ks s₀.heap) σw H s ∧ tn (i + 1) s.heap ∧ (∀ b ∈ fp, H b = none) ∧ ∀ s'', GRdy Xg ks σw fp tn W (i + 1) m s'' → kap (.send .none) s''
def GR (Xg : Cx) (ks : List Addr) (σw : St) (En : List (Addr × Obj) → Hp → Prop) (s₀ s₁ : Shared) : Prop := ∃ H, Inv Xg (pinsAt ks s₀.heap) σw H s₁ ∧ En (pinsAt ks s₀.heap) H
abbrev GEnd (Xg : Cx) (ks : List Addr) (σw : St) (En : List (Addr × Obj) → Hp → Prop) : GenEnd := fun _ s₀ r s₁ => r = .ok .next ∧ GR Xg ks σw En s₀ s₁

section
variable {Xg : Cx} {ks fp : List Addr} {σw : St} {tn : Nat → Heap → Prop} {W : List (Addr × Obj) → Nat → Nat → Hp → Prop} {En : List (Addr × Obj) → Hp → Prop} {Yd : List (Addr × Obj) → Nat → Nat → V → Hp → Prop} {J : It} {g : TG} {tt : TT} {te : TE} {vs : List Nat} {A1 : Around}
  {elt tg iter : Expr} {ifs : List Expr} {scope : Scope} {pos : Pos} {it : Addr}

theorem seg_gen (hA : Xg.A = A1.over (.compLoop (.GeneratorExp elt [⟨tg, iter, ifs, 0⟩] scope pos) 0 (.ref it) .none Xg.env) []) (hx : Xg.xe = fun _ _ => False) (hex : Xg.ex = fp) (hc : Xg.calm = true) (hco : Xg.env.scope.isCoroutine = false)
    (hpn : ∀ p ∈ Xg.pn, p.1 ∉ fp) (hks : ∀ b ∈ ks, b ∉ fp) (T : Turn Xg.prog Xg.w Xg.K tg J fp it tn) (hg : PG Xg tg g) (ht : PTs Xg ifs tt) (he : PE Xg elt te) (hw : ∃ τ, σw = wipe τ vs) (hT : ∀ π, GTurn J g tt te vs σw (W π) (En π) (Yd π)) :
    ∀ (m n : Nat), m < n → ∀ (i : Nat) (H : Hp) (s₀ s : Shared), Inv Xg (pinsAt ks s₀.heap) σw H s → tn i s.heap → (∀ b ∈ fp, H b = none) → W (pinsAt ks s₀.heap) i m H →
      Seg (model Xg.prog Xg.w) A1 (GEnd Xg ks σw En) (GY Xg ks σw fp tn W Yd) n s₀ (.compLoop (.GeneratorExp elt [⟨tg, iter, ifs, 0⟩] scope pos) 0 (.ref it) .none Xg.env)
        ((model Xg.prog Xg.w).den (.compLoop (.GeneratorExp elt [⟨tg, iter, ifs, 0⟩] scope pos) 0 (.ref it) .none Xg.env)) [] s := by
  intro m
  induction m using Nat.strongRecOn with
  | _ m ih =>
  intro n hmn i H s₀ s I st nf hW
  have stat : ∀ {σ' : St} {H' : Hp} {s' : Shared}, Inv Xg (pinsAt ks s₀.heap) σ' H' s' → (∀ b ∈ fp, H' b = none) → ∀ b ∈ fp, FpOk Xg (pinsAt ks s₀.heap) H' b := fun {σ' H' s'} I' hn b hb => by
    have hb' : b ∈ Xg.ex := by rw [hex]; exact hb
    refine ⟨hn b hb, (I'.ok.exf b hb').1, I'.ok.exfs b hb', .inl hb', fun x c e => (I'.ok.exf b hb').2 x c e, fun p hp z => ?_⟩
    rcases List.mem_append.mp hp with q | q
    · exact hpn p q (by rw [z]; exact hb)
    · exact hks _ (of_pinsAt q).1 (by rw [z]; exact hb)
  show Seg _ A1 _ _ _ s₀ _ ((compTurn (.GeneratorExp elt [⟨tg, iter, ifs, 0⟩] scope pos) 0 (.ref it) .none Xg.env).onRaise (leaving Xg.env)) [] s
  rw [compTurn_gen, Sem.onRaise_eq_wrap]
  refine seg_bind_wrap (wpAny_standAt ?_)
  rcases hT _ i m H hW with ⟨stop, en⟩ | ⟨go, step⟩
  · refine seg_bind_wrap ?_
    rw [← hA]
    refine wpAny_mono (T.done Xg rfl rfl rfl hc i _ s σw H (fun _ _ => False) I (stat I nf) st stop) (fun r s1 ⟨hr, I1⟩ => ?_) fun _ _ z => z.elim
    subst hr
    exact seg_end (.ok .next) ⟨rfl, H, I1, en⟩
  · refine seg_bind_wrap ?_
    rw [← hA]
    refine wpAny_mono (T.item Xg rfl rfl rfl hc i _ s σw H (fun _ _ => False) I (stat I nf) st go) (fun r s1 ⟨u, hr, h1⟩ => ?_) fun _ _ z => z.elim
    subst hr
    refine seg_bind_wrap ?_
    rw [← hA]
    refine wpAny_mono h1 (fun _ s7 ⟨x, H7, I7, r7, y7, st7, n7⟩ => ?_) fun _ _ z => z.elim
    have I7' := I7.pinned (stat I7 n7) (T.obj _ _ st7)
    refine seg_bind_wrap ?_
    rw [← hA]
    refine wpAny_mono (hg _ s7 _ H7 x u _ I7' r7 (step x H7 y7)) (fun _ s8 ⟨σ8, H8, I8, hw8, q8⟩ => ?_) fun _ _ z => by rw [hx] at z; exact z.elim
    refine seg_bind_wrap ?_
    rw [← hA]
    refine wpAny_mono (ht _ s8 σ8 H8 _ I8 q8) (fun b s9 ⟨H9, I9, q9⟩ => ?_) fun _ _ z => by rw [hx] at z; exact z.elim
    have fin : ∀ {s' : Shared} {H' : Hp}, Inv Xg (pinsAt ks s₀.heap ++ pinsAt fp s7.heap) σ8 H' s' → Inv Xg (pinsAt ks s₀.heap) σw H' s' ∧ tn (i + 1) s'.heap ∧ ∀ b ∈ fp, H' b = none := fun {s' H'} I' => by
      have pin' : ∀ b ∈ fp, ∀ o, s7.heap.get? b = some o → s'.heap.get? b = some o ∧ H' b = none := fun b hb o e =>
        let z := I'.pin (b, o) (List.mem_append_right _ (List.mem_append_right _ (mem_pinsAt hb e)))
        ⟨z.1, z.2.1⟩
      have hl : σw.length = σ8.length := by rw [← hw8, wipe_length]
      refine ⟨I'.unpinned.weak hl (fun j v e => ?_), T.keep _ _ _ st7 fun b hb o e => (pin' b hb o e).1, fun b hb => ?_⟩
      · rw [← hw8] at e
        exact (wipe_some e).1
      · obtain ⟨o, e, _⟩ := T.obj _ _ st7 b hb
        exact (pin' b hb o e).2
    cases b with
    | false =>
      simp only [Bool.false_eq_true, if_false] at q9 ⊢
      obtain ⟨m', hm, w'⟩ := q9
      obtain ⟨I10, st10, n10⟩ := fin I9
      exact seg_again rfl (ih m' hm n (by omega) (i + 1) H9 s₀ s9 I10 st10 n10 w')
    | true =>
      simp only [if_true] at q9 ⊢
      have hy : ∀ v, yieldOut Xg.env v = yieldValue v := fun v => by simp only [yieldOut, hco, Bool.false_eq_true, if_false]
      simp only [hy]
      rw [Sem.bind_eq_wrap', Sem.bind_eq_wrap', Sem.wrap_wrap, Sem.wrap_wrap]
      refine seg_wrap ?_
      rw [← hA]
      refine wpAny_mono (he _ s9 σ8 H9 _ I9 q9) (fun z s10 ⟨yv, H10, I10, r10, yd⟩ => ?_) fun _ _ z => by rw [hx] at z; exact z.elim
      obtain ⟨k, rfl⟩ : ∃ k, n = k + 1 := ⟨n - 1, by omega⟩
      obtain ⟨I11, st11, n11⟩ := fin I10
      refine seg_at (seg_yield rfl rfl rfl ⟨i, m, yv, H10, by omega, yd, r10, I11, st11, n11, fun s'' ⟨m', H'', hm, I'', st'', n'', w''⟩ => ?_⟩)
      exact seg_again rfl (ih m' hm k (by omega) (i + 1) H'' s'' s'' I'' st'' n'' w'')

theorem seg_gen0 (hA : Xg.A = A1.over (.compLoop (.GeneratorExp elt [⟨tg, iter, ifs, 0⟩] scope pos) 0 (.ref it) .none Xg.env) []) (hx : Xg.xe = fun _ _ => False) (hex : Xg.ex = fp) (hc : Xg.calm = true) (hco : Xg.env.scope.isCoroutine = false)
    (hpn : ∀ p ∈ Xg.pn, p.1 ∉ fp) (hks : ∀ b ∈ ks, b ∉ fp) (T : Turn Xg.prog Xg.w Xg.K tg J fp it tn) (hg : PG Xg tg g) (ht : PTs Xg ifs tt) (he : PE Xg elt te) (hw : ∃ τ, σw = wipe τ vs) (hT : ∀ π, GTurn J g tt te vs σw (W π) (En π) (Yd π))
    {m n : Nat} (hmn : m < n) {H : Hp} {s₀ s : Shared} (I : Inv Xg (pinsAt ks s₀.heap) σw H s) (st : tn 0 s.heap) (nf : ∀ b ∈ fp, H b = none) (hW : W (pinsAt ks s₀.heap) 0 m H) :
    Seg (model Xg.prog Xg.w) A1 (GEnd Xg ks σw En) (GY Xg ks σw fp tn W Yd) n s₀ (.compStart (.GeneratorExp elt [⟨tg, iter, ifs, 0⟩] scope pos) 0 (.ref it) .none Xg.env)
        ((model Xg.prog Xg.w).den (.compStart (.GeneratorExp elt [⟨tg, iter, ifs, 0⟩] scope pos) 0 (.ref it) .none Xg.env)) [] s := by
  have loop := seg_gen hA hx hex hc hco hpn hks T hg ht he hw hT m n hmn 0 H s₀ s I st nf hW
  show Seg _ A1 _ _ _ s₀ _ ((compStart (.GeneratorExp elt [⟨tg, iter, ifs, 0⟩] scope pos) 0 (.ref it) .none Xg.env).onRaise (leaving Xg.env)) [] s
  unfold compStart
  rw [Sem.onRaise_eq_wrap]
  show Seg _ A1 _ _ _ s₀ _ ((ask >>= _).wrap _ _ _ _) [] s
  refine seg_bind_wrap (wpAny_askSetting ?_)
  split
  · exact seg_again rfl loop
  · first
      | exact seg_bind_wrap (wpAny_rule (seg_bind_wrap (wpAny_standAt (seg_bind_wrap (T.self _ 0 s _ _ st (seg_again rfl loop))))))
      | (refine seg_bind_wrap (wpAny_rule ?_); show Seg _ A1 _ _ _ s₀ _ ((standAt iter.pos >>= _).wrap _ _ _ _) [] s; exact seg_bind_wrap (wpAny_standAt (seg_bind_wrap (T.self _ 0 s _ _ st (seg_again rfl loop)))))


def GAt (Xg : Cx) (A1 : Around) (ks : List Addr) (σw : St) (fp : List Addr) (tn : Nat → Heap → Prop) (W : List (Addr × Obj) → Nat → Nat → Hp → Prop) (En : List (Addr × Obj) → Hp → Prop) (Yd : List (Addr × Obj) → Nat → Nat → V → Hp → Prop) (gn i m n : Nat) (s : Shared) : Prop :=
  m ≤ n ∧ ∃ gs, s.gens[gn]? = some gs ∧ ∀ s'', GRdy Xg ks σw fp tn W i m s'' → gs.Goes (model Xg.prog Xg.w) A1 (GEnd Xg ks σw En) (GY Xg ks σw fp tn W Yd) n (.send .none) s''

theorem gen_next {A : Around} {a : Addr} {gn i m n : Nat} {s : Shared} {E : Value → Shared → Prop} (hh : A.handled = none) (hroom : A.depth < recursionLimit) (hgen : ∀ {pins : List (Addr × Obj)} {σ : St} {H : Hp} {s' : Shared}, Inv Xg pins σ H s' → s'.heap.IsGen a gn)
    (hG : GAt Xg A.in1 ks σw fp tn W En Yd gn i m n s) (hR : GRdy Xg ks σw fp tn W i m s) :
    wpAny (model Xg.prog Xg.w) A (pyNext (.ref a)) (fun r s1 => (r = none ∧ ∃ H, Inv Xg (pinsAt ks s.heap) σw H s1 ∧ En (pinsAt ks s.heap) H) ∨
      (∃ v i' m' n' y H, r = some v ∧ n = n' + 1 ∧ Yd (pinsAt ks s.heap) i' m' y H ∧ RelV y v ∧ Inv Xg (pinsAt ks s.heap) σw H s1 ∧ tn (i' + 1) s1.heap ∧ (∀ b ∈ fp, H b = none) ∧ GAt Xg A.in1 ks σw fp tn W En Yd gn (i' + 1) m' n' s1)) E s := by
  obtain ⟨hmn, gs, hgs, hgo⟩ := hG
  obtain ⟨m0, H, hm0, I, st, nf, w⟩ := id hR
  have hlt : gn < s.gens.size := by
    rcases Nat.lt_or_ge gn s.gens.size with h' | h'
    · exact h'
    · rw [Array.getElem?_eq_none h'] at hgs; cases hgs
  have R' : GRdy Xg ks σw fp tn W i m (s.setGen gn .running) := ⟨m0, H, hm0, I.setGen rfl, st, nf, w⟩
  refine GM.wpAny_with_gens (Nat.le_refl s.gens.size) ?_
  refine wpAny_pyNext_genexpQ (P := fun _ s₀ s₁ => GR Xg ks σw En s₀ s₁) hh I.nolimit hroom (hgen I) hgs (hgo _ R') (fun v s₁ gs' hb hv => ?_) (fun s₁ hp h' hk => ?_)
  · obtain ⟨i', m', y, H', hle, yd, rv, I', st', n', hk⟩ := hv
    intro hsz
    have e1 : (s₁.setGen gn gs').gens[gn]? = some gs' := by
      have hl : gn < s₁.gens.size := by
        have e2 : (s₁.setGen gn gs').gens.size = s₁.gens.size := by simp [Shared.setGen]
        rw [e2] at hsz
        exact Nat.lt_of_lt_of_le hlt hsz
      simp [Shared.setGen, hl]
    obtain ⟨k, rfl⟩ : ∃ k, n = k + 1 := ⟨n - 1, by omega⟩
    exact .inr ⟨v, i', m', k, y, H', rfl, rfl, yd, rv, I'.setGen hb, st', n', hle, gs', e1, fun s'' r => hk s'' r⟩
  · obtain ⟨H', I', en⟩ := hp
    intro _
    exact .inl ⟨rfl, H', (I'.setGen (g := gn) (x := .finished) rfl).kept (t' := s₁.toks) hk, en⟩
end
end L2

namespace L2
open PySem PySem.Spec PyProof.Rows

theorem Room.over {k : Nat} {A Ac : Around} {ge : Expr} {it acc : Value} {env : Env} (r : Room (k + 1) A) (h1 : Ac.handled = none) (h2 : Ac.depth = A.depth) (h3 : Ac.units ≤ A.units + 8) (hf : (Code.compLoop ge 0 it acc env).weight = 1) (hu : (Code.compLoop ge 0 it acc env).cUnits ≤ 4) :
    Room k (Ac.over (.compLoop ge 0 it acc env) []) := by
  have d1 := r.dp
  have d2 := r.un
  refine ⟨?_, ?_, ?_⟩
  · show (marksOver [] (Ac.handled, Ac.handled)).1 = none
    rw [h1]; rfl
  · show Ac.depth + frameCount [] + _ + 3 * k + 5 < recursionLimit
    rw [hf, h2]
    have : frameCount ([] : List (Code × Pos)) = 0 := rfl
    omega
  · show Ac.units + unitsOf [] + _ + 16 * k + 200 < cLine
    have : unitsOf ([] : List (Code × Pos)) = 0 := rfl
    omega

section
variable {X : Cx} {pins : List (Addr × Obj)} {σ : St} {H : Hp} {s : Shared} {c P : Addr} {ps : Array Value} {k : Nat} {Ac : Around}
  {elt tg iter : Expr} {ifs : List Expr} {scope : Scope} {own : List (Str × Nat)} {gpos : Pos} {wi : TI} {g : TG} {tt : TT} {te : TE}


def GenNew (X : Cx) (pins : List (Addr × Obj)) (σ : St) (Ac : Around) (g : TG) (tt : TT) (te : TE) (vs : List Nat) (R : It → Hp → Prop) (u : Value) (s5 : Shared) : Prop :=
  ∃ (Xg : Cx) (fp : List Addr) (tn : Nat → Heap → Prop) (J : It) (H1 : Hp) (a gn : Nat), u = .ref a ∧ Xg.prog = X.prog ∧ Xg.w = X.w ∧
    (∀ pins' σ' H' s', Inv Xg pins' σ' H' s' → Inv X pins σ H' s' ∧ s'.heap.IsGen a gn ∧ s5.heap.objs.size ≤ s'.heap.objs.size ∧ ∀ b, s5.heap.objs.size ≤ b → b ≠ Xg.env.locals ∧ Xg.s_0.heap.objs.size ≤ b ∧ (∀ x c, Xg.env.cells.lookup x = some c → c ≠ b) ∧ (∀ p ∈ Xg.pn, p.1 ≠ b) ∧ b ∉ Xg.fs) ∧
    Inv Xg [] (wipe σ vs) H1 s5 ∧ tn 0 s5.heap ∧ (∀ i h h', tn i h → (∀ b ∈ fp, ∀ o, h.get? b = some o → h'.get? b = some o) → tn i h') ∧ (∀ b ∈ fp, H1 b = none) ∧ (∀ b ∈ fp, b < s5.heap.objs.size) ∧ R J H1 ∧
    ∀ (ks : List Addr) (W : List (Addr × Obj) → Nat → Nat → Hp → Prop) (En : List (Addr × Obj) → Hp → Prop) (Yd : List (Addr × Obj) → Nat → Nat → V → Hp → Prop) (m : Nat), (∀ b ∈ ks, b ∉ fp) → (∀ π, GTurn J g tt te vs (wipe σ vs) (W π) (En π) (Yd π)) →
      ∀ s6 : Shared, s6.gens = s5.gens → GAt Xg Ac.in1 ks (wipe σ vs) fp tn W En Yd gn 0 m m s6

theorem mk_gen {R : It → Hp → Prop} {Q : Value → Shared → Prop} (hc : X.calm = true) (hN : X.N.Nodup) (hr : Room (k + 1) X.A) (h1 : Ac.handled = none) (h2 : Ac.depth = X.A.depth) (h3 : Ac.units ≤ X.A.units + 6) (h4 : Ac.frames = X.A.frames)
    (I : Inv X pins σ H s) (hi : PI X tg iter wi) (ok : BlkOk X.N X.env.scope scope own) (gk : GenScope scope) (ck : CodeK X.K X.env.code c P) (bk : BmK X.K X.mg)
    (hg : ∀ (A' : Around) (s : Shared) (H : Hp) (C : Addr) (cl : List (Str × Addr)) (code : Value) (fp : List Addr) (pn : List (Addr × Obj)), PG (X.genc A' s H (genEnv scope cl C code builtinsNs X.env) fp pn) tg g)
    (ht : ∀ (A' : Around) (s : Shared) (H : Hp) (C : Addr) (cl : List (Str × Addr)) (code : Value) (fp : List Addr) (pn : List (Addr × Obj)), Room k A' → PTs (X.genc A' s H (genEnv scope cl C code builtinsNs X.env) fp pn) ifs tt)
    (he : ∀ (A' : Around) (s : Shared) (H : Hp) (C : Addr) (cl : List (Str × Addr)) (code : Value) (fp : List Addr) (pn : List (Addr × Obj)), Room k A' → PE (X.genc A' s H (genEnv scope cl C code builtinsNs X.env) fp pn) elt te)
    (hs : ∀ x, genFold iter X.env x = pure x) (hw : wi σ H fun J H1 => H1 P = some (Tb P ps) ∧ R J H1)
    (hQ : ∀ u s5, GenNew X pins σ Ac g tt te (own.map (·.2)) R u s5 → Q u s5) :
    wpAny (model X.prog X.w) X.A (eval (.GeneratorExp elt [⟨tg, iter, ifs, 0⟩] scope gpos) X.env) Q X.xe s := by
  have hfree : ∀ y ∈ scope.names, y.2 = .free → ∃ c, X.env.cells.lookup y.1 = some c := fun y hy e => by
    rcases ok.free y hy e with k | k
    · exact I.ok.has _ (.inl k)
    · exact I.ok.has _ (.inr k)
  refine wpAny_GeneratorExp_make gk.co (closure_ok hfree) gk.nocell gk.dot ok.kind hr.depth (thn (hi pins s σ H _ I hw) fun xv s1 hx => thn hx fun itv s2 h2' => ?_) hs
  obtain ⟨it, fp, tn, J, H2, e, I2, T, st2, f2, hP, rj⟩ := h2'
  subst e
  refine ⟨I2.nolimit, genCode_ok I2 ck hP fun code s3 I3 eg kp3 => bfor_ok I3 bk ?_⟩
  have nP : ∀ b ∈ fp, b ≠ P := fun b hb z => by
    have := (f2 b hb).1
    rw [z, hP] at this; cases this
  have st3 : tn 0 s3.heap := T.keep _ _ _ st2 fun b hb o e => kp3 b o (nP b hb) e
  have f3 : ∀ b ∈ fp, FpOk X pins H2 b ∧ b < s3.heap.objs.size := fun b hb => by
    obtain ⟨o, e, _⟩ := T.obj _ _ st3 b hb
    exact ⟨f2 b hb, Heap.lt_size e⟩
  intro h' hns hsb
  have hsz : h'.objs.size = s3.heap.objs.size + 1 := by rw [hsb.1, Heap.size_push]
  have kp' : ∀ b o, s3.heap.get? b = some o → h'.get? b = some o := fun b o e => (hsb.2 b (Nat.ne_of_lt (Heap.lt_size e))).trans (Heap.get?_push_of_some _ e)
  generalize hcenv : genEnv scope (cloFrom X.env.cells scope.names []) s3.heap.objs.size code builtinsNs X.env = cenv
  generalize hge : (Expr.GeneratorExp elt [⟨tg, iter, ifs, 0⟩] scope gpos) = ge
  have hwt : (Code.compLoop ge 0 (.ref it) .none cenv).weight = 1 := by subst hge; rfl
  have hcu : (Code.compLoop ge 0 (.ref it) .none cenv).cUnits ≤ 4 := by subst hge; exact (by decide : 3 ≤ 4)
  have henv : (Code.compLoop ge 0 (.ref it) .none cenv).envs = [cenv] := by subst hge; rfl
  generalize hA' : Ac.in1.over (.compLoop ge 0 (.ref it) .none cenv) [] = A'
  have hrA : Room k A' := by
    rw [← hA']
    exact Room.over hr h1 h2 (by show Ac.units + 1 ≤ _; omega) hwt hcu
  have hfrA : A'.frames = some (cenv :: X.stack) := by
    rw [← hA']
    show pushEnvs (Code.compLoop ge 0 (.ref it) .none cenv).envs (pushEnvs (envsOf []) Ac.frames) = _
    rw [henv, h4, I.ok.frames]
    rfl
  generalize hgo : ({ cls := .type "generator", data := .fields #[.int s3.gens.size 0, .str "<genexpr>" (s3.toks + 1), .str (X.env.qual ++ "<genexpr>") (s3.toks + 1 + 1)] } : Obj) = go
  have bareP : AllBare (s3.gens.push (.fresh (.compStart ge 0 (.ref it) .none cenv))) := fun y hy => by
    rcases Array.mem_push.mp hy with z | z
    · exact I3.bare y z
    · rw [z]; rfl
  have I5 := gen_start (own := own) (fp := fp) (A' := A') (h' := h') (it := .ref it) (code := code) (gs := s3.gens.push (.fresh (.compStart ge 0 (.ref it) .none cenv))) (tk := s3.toks + 1 + 1 + 1) (go := go) hc I3 ok gk hN f3 hrA.hd
    (by rw [hcenv]; exact hfrA) hns hsb (by rw [← hgo]; rfl) (fun v z => by rw [← hgo] at z; cases z) bareP
  rw [hcenv] at I5
  have cL : cenv.locals = s3.heap.objs.size := by rw [← hcenv]; rfl
  have pg := hg A' s3 H2 s3.heap.objs.size (cloFrom X.env.cells scope.names []) code fp [(h'.objs.size, go)]
  have pt := ht A' s3 H2 s3.heap.objs.size (cloFrom X.env.cells scope.names []) code fp [(h'.objs.size, go)] hrA
  have pe := he A' s3 H2 s3.heap.objs.size (cloFrom X.env.cells scope.names []) code fp [(h'.objs.size, go)] hrA
  rw [hcenv] at pg pt pe
  have st5 : tn 0 (h'.push go) := T.keep _ _ _ st3 fun b _ o e => Heap.get?_push_of_some _ (kp' b o e)
  have lfp : ∀ b ∈ fp, b < (h'.push go).objs.size := fun b hb => by rw [Heap.size_push, hsz]; exact Nat.lt_succ_of_lt (Nat.lt_succ_of_lt (f3 b hb).2)
  refine hQ _ _ ⟨X.genc A' s3 H2 cenv fp [(h'.objs.size, go)], fp, tn, J, H2, h'.objs.size, s3.gens.size, rfl, rfl, rfl, fun pins' σ' H' s' I' => ?_, I5, st5, T.keep, fun b hb => (f3 b hb).1.1, lfp, rj, fun ks W En Yd m hks hT s6 hs6 => ?_⟩
  · have I7 : Inv X pins σ H' s' := I3.call' (ch := fp) I'.os I'.base I'.hok I'.bare fun b hb => ⟨(f3 b hb).1.2.2.2.1, (f3 b hb).1.2.1, (f3 b hb).1.2.2.2.2.1, (f3 b hb).1.2.2.2.2.2⟩
    obtain ⟨ga, _, _, _, _⟩ := I'.pin (h'.objs.size, go) (List.mem_append_left _ List.mem_cons_self)
    have gl := Heap.lt_size ga
    refine ⟨I7, ⟨go, _, _, ga, by rw [← hgo], by rw [← hgo], by rw [← hgo]⟩, ?_, fun b hb => ?_⟩
    · show (h'.push go).objs.size ≤ _
      rw [Heap.size_push]; exact gl
    · have hb : h'.objs.size + 1 ≤ b := by
        have hb : (h'.push go).objs.size ≤ b := hb
        rw [Heap.size_push] at hb
        exact hb
      refine ⟨?_, ?_, fun x c e z => ?_, fun p hp z => ?_, ?_⟩
      · show b ≠ cenv.locals
        rw [cL]; omega
      · show s3.heap.objs.size ≤ b
        omega
      · have e : cenv.cells.lookup x = some c := e
        rw [← hcenv] at e
        rcases cloFrom_mem (PySem.mem_of_lookup e) with hm | ⟨hm, rfl⟩
        · cases hm
        · obtain ⟨c, hcc⟩ := hfree _ hm rfl
          obtain ⟨w, z'⟩ := I3.cell _ _ hcc
          rw [hcc] at z
          have z : c = b := z
          have h6 : b < s3.heap.objs.size := z ▸ z'.lt
          exact absurd (Nat.lt_of_lt_of_le h6 (show s3.heap.objs.size ≤ b by omega)) (Nat.lt_irrefl _)
      · have e : p = (h'.objs.size, go) := by simpa using hp
        rw [e] at z
        have z : h'.objs.size = b := z
        omega
      · show b ∉ frs X.stack
        intro z
        rcases List.mem_cons.mp (I3.stkSub b z) with z | z
        · have h6 : b < s3.heap.objs.size := z.symm ▸ I3.lt
          exact absurd (Nat.lt_of_lt_of_le h6 (show s3.heap.objs.size ≤ b by omega)) (Nat.lt_irrefl _)
        · exact I3.nofs (by omega) z
  · refine ⟨Nat.le_refl _, .fresh (.compStart ge 0 (.ref it) .none cenv), ?_, fun s'' ⟨m', H', hm, I', st', n', w'⟩ => ⟨rfl, ?_⟩⟩
    · rw [hs6]
      exact Array.getElem?_push_size ..
    · subst hge
      exact seg_gen0 (Xg := X.genc A' s3 H2 cenv fp [(h'.objs.size, go)]) hA'.symm rfl rfl hc (by show cenv.scope.isCoroutine = false; rw [← hcenv]; exact gk.co) (fun p hp z => by
        have e : p = (h'.objs.size, go) := by simpa using hp
        rw [e] at z
        have := (f3 _ z).2
        have z' : h'.objs.size < s3.heap.objs.size := this
        omega) hks T pg pt pe ⟨σ, rfl⟩ hT hm I' st' n' w'
end


section
variable {Xg : Cx} {fp : List Addr} {σw : St} {tn : Nat → Heap → Prop} {W : Nat → Nat → Hp → Prop} {En : Hp → Prop} {Yd : Nat → Nat → V → Hp → Prop}
end

section
variable {X : Cx} {c P : Addr} {ps : Array Value} {k : Nat} {elt tg iter : Expr} {ifs : List Expr} {scope : Scope} {own : List (Str × Nat)} {p pos gpos : Pos} {wi : TI} {g : TG} {tt : TT} {te : TE}

end
end L2

namespace L2
open PySem PySem.Spec PyProof.Rows


def PinL (S : Addr) (π : List (Addr × Obj)) (ys : List V) : Prop := ∃ (acc : Array Value) (c : Nat), π = [(S, { cls := .type "list", dict := none, data := .seq acc c, slots := #[] })] ∧ Vals ys acc.toList
theorem PinL.inj {S : Addr} {π : List (Addr × Obj)} {ys zs : List V} (a : PinL S π ys) (b : PinL S π zs) : ys = zs := by
  obtain ⟨acc, c, e, v⟩ := a
  obtain ⟨acc', c', e', v'⟩ := b
  rw [e] at e'
  injection e' with e1 _
  injection e1 with _ e2
  injection e2 with _ _ e3 _
  injection e3 with e4 _
  subst e4
  exact v.inj v'

def GGather (J : It) (g : TG) (tt : TT) (te : TE) (vs : List Nat) (σw : St) (W : List V → Nat → Nat → Hp → Prop) (En : List V → Hp → Prop) : Prop :=
  ∀ C : List V → Prop, (∀ a b, C a → C b → a = b) → GTurn J g tt te vs σw (fun i m H => ∃ ys, C ys ∧ W ys i m H) (fun H => ∃ ys, C ys ∧ En ys H) fun i m y H => ∃ ys, C ys ∧ ys.length < sizeLine ∧ ∃ m', m' < m ∧ W (ys ++ [y]) (i + 1) m' H

theorem pinsAt_one {S : Addr} {h : Heap} {o : Obj} (e : h.get? S = some o) : pinsAt [S] h = [(S, o)] := by
  simp [pinsAt, e]

section
variable {Xg : Cx} {fp : List Addr} {σw : St} {tn : Nat → Heap → Prop} {W : List V → Nat → Nat → Hp → Prop} {En : List V → Hp → Prop}
abbrev WL (S : Addr) (W : List V → Nat → Nat → Hp → Prop) : List (Addr × Obj) → Nat → Nat → Hp → Prop := fun π i m H => ∃ ys, PinL S π ys ∧ W ys i m H
abbrev EL (S : Addr) (En : List V → Hp → Prop) : List (Addr × Obj) → Hp → Prop := fun π H => ∃ ys, PinL S π ys ∧ En ys H
abbrev YL (S : Addr) (W : List V → Nat → Nat → Hp → Prop) : List (Addr × Obj) → Nat → Nat → V → Hp → Prop := fun π i m y H => ∃ ys, PinL S π ys ∧ ys.length < sizeLine ∧ ∃ m', m' < m ∧ W (ys ++ [y]) (i + 1) m' H

theorem ext_loopG {A : Around} {a gn S : Nat} {res : Value} {R : Result → Shared → Prop} (hh : A.handled = none) (hroom : A.depth < recursionLimit) (hgen : ∀ {pins : List (Addr × Obj)} {σ : St} {H : Hp} {s' : Shared}, Inv Xg pins σ H s' → s'.heap.IsGen a gn)
    (hS : ∀ {pins : List (Addr × Obj)} {σ : St} {H : Hp} {s' : Shared}, Inv Xg pins σ H s' → S ≠ Xg.env.locals ∧ Xg.s_0.heap.objs.size ≤ S ∧ (∀ x c, Xg.env.cells.lookup x = some c → c ≠ S) ∧ (∀ p ∈ Xg.pn, p.1 ≠ S) ∧ S ∉ Xg.fs) (hSf : S ∉ fp)
    (hkeep : ∀ i h h', tn i h → (∀ b ∈ fp, ∀ o, h.get? b = some o → h'.get? b = some o) → tn i h')
    (hEn : ∀ ys H s' acc c, Inv Xg [] σw H s' → H S = none → s'.heap.get? S = some { cls := .type "list", dict := none, data := .seq acc c, slots := #[] } → Vals ys acc.toList → En ys H → R (.ok (.ret res)) s') :
    ∀ (n i m : Nat) (s : Shared), GAt Xg A.in1.in1 [S] σw fp tn (WL S W) (EL S En) (YL S W) gn i m n s → GRdy Xg [S] σw fp tn (WL S W) i m s → codeAny (model Xg.prog Xg.w) A (.builtin "list.extend.loop" ⟨[.ref S, .ref a, res], []⟩) R s := by
  intro n
  induction n with
  | zero => intro i m s hG ⟨m', _, hm, _⟩; exact absurd hG.1 (by omega)
  | succ n ih =>
    intro i m s hG hR
    refine codeAny_builtin F.entry_extend_loop ?_
    rw [Around.under_plainId F.plain_extend_loop _]
    show wpAny _ A.in1 (pyNext (.ref a) >>= _) _ _ s
    obtain ⟨_, _, _, _, _, _, ys0, ⟨acc0, c0, hp0, hv0⟩, _⟩ := id hR
    refine wpAny_bind (wpAny_mono (gen_next (A := A.in1) (E := fun _ _ => False) hh hroom hgen hG hR) (fun r s1 h1 => ?_) fun _ _ z => z.elim)
    rw [hp0] at h1
    rcases h1 with ⟨rfl, H, I, ys, ⟨acc, c, hp, hv⟩, en⟩ | ⟨v, i', m', n', y, H, rfl, e, ⟨ys, ⟨acc, c, hp, hv⟩, hz, m'', hm, w⟩, rv, I, st, nf, G⟩
    · obtain ⟨h1, h2, _⟩ := I.pin (S, { cls := .type "list", dict := none, data := .seq acc0 c0, slots := #[] }) (List.mem_append_right _ List.mem_cons_self)
      injection hp with e1 _
      injection e1 with _ e2
      injection e2 with _ _ e3 _
      injection e3 with e4 e5
      subst e4 e5
      exact wpAny_pure (hEn ys H s1 acc0 c0 (I.pins_of fun p hp => nomatch hp) h2 h1 hv en)
    · cases e
      obtain ⟨h1, h2, _⟩ := I.pin (S, { cls := .type "list", dict := none, data := .seq acc0 c0, slots := #[] }) (List.mem_append_right _ List.mem_cons_self)
      injection hp with e1 _
      injection e1 with _ e2
      injection e2 with _ _ e3 _
      injection e3 with e4 e5
      subst e4 e5
      have hl := hv.length
      have I0 : Inv Xg [] σw H s1 := I.pins_of fun p hp => nomatch hp
      obtain ⟨f1, f2, f3, f4, f5⟩ := hS I0
      show wpAny _ A.in1 (updateSeq S (·.push v) >>= _) _ _ _
      refine wpAny_bind ?_
      have hacc : acc0.size < sizeLine := by
        have : acc0.toList.length = acc0.size := by simp
        omega
      refine wpAny_updateSeq h1 rfl (wpAny_pure ⟨plainId_quiet F.plain_extend_loop _, ?_⟩) (by omega) (by show (acc0.push v).size ≤ sizeLine + 1; rw [Array.size_push]; omega)
      have oth : ∀ b o, b ≠ S → s1.heap.get? b = some o → (s1.heap.update S (Obj.mapSeq (·.push v))).get? b = some o := fun b o hb e => (Heap.get?_update_other _ _ (Ne.symm hb)).trans e
      have hS2 := Heap.get?_update_self (Obj.mapSeq (·.push v)) h1 rfl
      have I1 : Inv Xg [] σw H { s1 with heap := s1.heap.update S (Obj.mapSeq (·.push v)) } := I0.turned (t' := s1.toks) oth h2 f1 (.inr f2) f3 fun p hp => by
        rcases List.mem_append.mp hp with q | q
        · exact f4 p q
        · cases q
      refine ih (i' + 1) m' _ ⟨G.1, G.2⟩ ⟨m'', H, hm, ?_, hkeep _ _ _ st fun b hb o e => oth b o (fun z => hSf (z ▸ hb)) e, nf, ys ++ [y], ?_, w⟩
      · have := I1.pinned (fp := [S]) (fun b hb => ?_) (fun b hb => ?_)
        · exact this
        · have e : b = S := by simpa using hb
          subst e
          refine ⟨h2, f1, f5, .inr f2, f3, fun p hp => ?_⟩
          rcases List.mem_append.mp hp with q | q
          · exact f4 p q
          · cases q
        · have e : b = S := by simpa using hb
          subst e
          exact ⟨_, hS2, fun v z => nomatch z⟩
      · refine ⟨acc0.push v, _, pinsAt_one hS2, ?_⟩
        rw [Array.toList_push]
        exact hv.append (.cons rv .nil)


theorem gathers {prog : Program} {w : World} {A : Around} {E : Value → Shared → Prop} {s : Shared} {a gn : Nat} {Q : List Value → Shared → Prop} (gen : s.heap.IsGen a gn)
    (go : ∀ (h' : Heap) (e : Nat) (R : Result → Shared → Prop), (∀ b o, s.heap.get? b = some o → h'.get? b = some o) → h'.get? s.heap.objs.size = some { cls := .type "list", data := .seq #[] e } → h'.objs.size = s.heap.objs.size + 1 →
      (∀ (s' : Shared) (acc : Array Value) (c : Nat), s'.heap.get? s.heap.objs.size = some { cls := .type "list", data := .seq acc c } → Q acc.toList s' → R (.ok (.ret (.ref s.heap.objs.size))) s') →
      codeAny (model prog w) A (.builtin "list.extend.loop" ⟨[.ref s.heap.objs.size, .ref a, .ref s.heap.objs.size], []⟩) R { s with heap := h' }) :
    wpAny (model prog w) A (collect (.ref a)) Q E s := by
  have lt : a < s.heap.objs.size := let ⟨_, _, _, g, _⟩ := gen; Heap.lt_size g
  have g1 : (s.heap.push { cls := .type "list", data := .seq #[] }).IsGen a gn := gen.push _
  have new1 : (s.heap.push { cls := .type "list", data := .seq #[] }).get? s.heap.objs.size = some { cls := .type "list", data := .seq #[] } := Heap.get?_push_size _ rfl
  obtain ⟨e2, new2⟩ : ∃ e, ((s.heap.push { cls := .type "list", data := .seq #[] }).update s.heap.objs.size (Obj.mapSeq (·.push .none))).get? s.heap.objs.size = some { cls := .type "list", data := .seq #[.none] e } := ⟨_, Heap.get?_update_self _ new1 rfl⟩
  obtain ⟨e3, new3⟩ : ∃ e, (((s.heap.push { cls := .type "list", data := .seq #[] }).update s.heap.objs.size (Obj.mapSeq (·.push .none))).update s.heap.objs.size (Obj.mapSeq (·.pop))).get? s.heap.objs.size = some { cls := .type "list", data := .seq #[] e } := ⟨_, Heap.get?_update_self _ new2 rfl⟩
  have stays : ∀ b o, s.heap.get? b = some o → (((s.heap.push { cls := .type "list", data := .seq #[] }).update s.heap.objs.size (Obj.mapSeq (·.push .none))).update s.heap.objs.size (Obj.mapSeq (·.pop))).get? b = some o := fun b o g =>
    have ne : b ≠ s.heap.objs.size := Nat.ne_of_lt (Heap.lt_size g)
    (Heap.get?_update_ne _ _ _ _ ne).trans ((Heap.get?_update_ne _ _ _ _ ne).trans (Heap.get?_push_of_some _ g))
  have ty1 := g1.typeIs (s := { s with heap := s.heap.push { cls := .type "list", data := .seq #[] } })
  have apart : Builtin.List.listSameRef (.ref s.heap.objs.size) (.ref a) = false := beq_eq_false_iff_ne.mpr (Nat.ne_of_gt lt)
  unfold collect
  refine wpAny_bind (wpAny_runValue (codeAny_builtin F.entry_proto_collect ((Around.under_plainId F.plain_proto_collect _).symm ▸ wpAny_bind (wpAny_newObj_type (wpAny_pure ⟨plainId_quiet F.plain_list_iadd _, codeAny_builtin F.entry_list_iadd ((Around.under_plainId F.plain_list_iadd _).symm ▸ ?_)⟩)))))
  refine wpAny_bind (wpAny_pure (wpAny_bind (wpAny_typeOf ty1 ?_)))
  dsimp only
  rw [apart, show (Value.type "generator" == Value.type "list") = false by decide, show (Value.type "generator" == Value.type "tuple") = false by decide]
  refine wpAny_bind (wpAny_pyIter_gen g1 (wpAny_bind (wpAny_holding (wpAny_bind (wpAny_specialOf ty1 F.gen_no_len (wpAny_bind (wpAny_specialOf ty1 F.gen_no_hint (wpAny_pure ?_))))))))
  refine wpAny_bind (wpAny_rule (wpAny_bind (wpAny_bind (wpAny_updateSeq new1 rfl (wpAny_updateSeq new2 rfl (wpAny_pure ⟨plainId_quiet F.plain_extend_loop _, go _ e3 _ stays new3 ?_ fun s' acc c at_ q => ?_⟩))))))
  · exact (Heap.size_update ..).trans ((Heap.size_update ..).trans (Heap.size_push ..))
  · exact wpAny_bind (wpAny_load at_ (wpAny_pure q))
theorem collectG {A : Around} {a gn m : Nat} {s : Shared} {E : Value → Shared → Prop} {Q : List Value → Shared → Prop} {H : Hp} (hh : A.handled = none) (hroom : A.depth < recursionLimit) (hgen : ∀ {pins : List (Addr × Obj)} {σ : St} {H : Hp} {s' : Shared}, Inv Xg pins σ H s' → s'.heap.IsGen a gn)
    (hS : ∀ {pins : List (Addr × Obj)} {σ : St} {H : Hp} {s' : Shared}, Inv Xg pins σ H s' → s.heap.objs.size ≠ Xg.env.locals ∧ Xg.s_0.heap.objs.size ≤ s.heap.objs.size ∧ (∀ x c, Xg.env.cells.lookup x = some c → c ≠ s.heap.objs.size) ∧ (∀ p ∈ Xg.pn, p.1 ≠ s.heap.objs.size) ∧ s.heap.objs.size ∉ Xg.fs) (hSf : s.heap.objs.size ∉ fp)
    (hkeep : ∀ i h h', tn i h → (∀ b ∈ fp, ∀ o, h.get? b = some o → h'.get? b = some o) → tn i h')
    (I : Inv Xg [] σw H s) (st : tn 0 s.heap) (nf : ∀ b ∈ fp, H b = none) (w0 : W [] 0 m H) (hG : ∀ s6 : Shared, s6.gens = s.gens → GAt Xg A.in1.in1 [s.heap.objs.size] σw fp tn (WL s.heap.objs.size W) (EL s.heap.objs.size En) (YL s.heap.objs.size W) gn 0 (m + 1) (m + 1) s6)
    (hQ : ∀ ys us H' s', Inv Xg [] σw H' s' → En ys H' → Vals ys us → Q us s') : wpAny (model Xg.prog Xg.w) A (collect (.ref a)) Q E s := by
  have nS : H s.heap.objs.size = none := I.hok.fresh (Nat.le_refl _)
  refine gathers (hgen I) fun h' e R stays new size fin => ?_
  have I1 : Inv Xg [] σw H { s with heap := h' } := I.kept (t' := s.toks) stays
  obtain ⟨f1, f2, f3, f4, f5⟩ := hS I1
  refine ext_loopG (Xg := Xg) (W := W) (En := En) hh hroom hgen hS hSf hkeep (fun ys H' s' acc c I' _ hs' hv en => fin s' acc c hs' (hQ ys _ H' s' I' en hv)) (m + 1) 0 (m + 1) _ (hG _ rfl) ⟨m, H, Nat.lt_succ_self _, ?_, hkeep _ _ _ st fun b _ o g => stays b o g, nf, [], ⟨#[], _, pinsAt_one new, .nil⟩, w0⟩
  refine I1.pinned (fp := [s.heap.objs.size]) (fun b hb => ?_) fun b hb => ?_
  · obtain rfl : b = s.heap.objs.size := by simpa using hb
    exact ⟨nS, f1, f5, .inr f2, f3, fun p hp => (List.mem_append.mp hp).elim (f4 p) nofun⟩
  · obtain rfl : b = s.heap.objs.size := by simpa using hb
    exact ⟨_, new, nofun⟩
end

section
variable {X : Cx} {c P : Addr} {ps : Array Value} {k : Nat} {elt tg iter : Expr} {ifs : List Expr} {scope : Scope} {own : List (Str × Nat)} {p pos gpos : Pos} {wi : TI} {g : TG} {tt : TT} {te : TE}

def tTupG (P : Addr) (ps : Array Value) (wi : TI) (g : TG) (tt : TT) (te : TE) (vs : List Nat) : TE := fun σ H Q => wi σ H fun J H1 => H1 P = some (Tb P ps) ∧ ∃ W : List V → Nat → Nat → Hp → Prop, (∃ m, W [] 0 m H1) ∧
  GGather J g tt te vs (wipe σ vs) W fun ys H => ys.length ≤ sizeLine ∧ ∀ p, H p = none → Q (.ref p) (upd H p (.tup ys))
theorem boot_tuple5 : bootBuiltins "tuple" = some (.type "tuple") := by decide +kernel
theorem pe_tupG (hc : X.calm = true) (hN : X.N.Nodup) (hr : Room (k + 1) X.A) (hgl : Gl X "tuple") (hm : X.mg "tuple" = none) (hi : PI X tg iter wi) (ok : BlkOk X.N X.env.scope scope own) (gk : GenScope scope) (ck : CodeK X.K X.env.code c P) (bk : BmK X.K X.mg)
    (hg : ∀ (A' : Around) (s : Shared) (H : Hp) (C : Addr) (cl : List (Str × Addr)) (code : Value) (fp : List Addr) (pn : List (Addr × Obj)), PG (X.genc A' s H (genEnv scope cl C code builtinsNs X.env) fp pn) tg g)
    (ht : ∀ (A' : Around) (s : Shared) (H : Hp) (C : Addr) (cl : List (Str × Addr)) (code : Value) (fp : List Addr) (pn : List (Addr × Obj)), Room k A' → PTs (X.genc A' s H (genEnv scope cl C code builtinsNs X.env) fp pn) ifs tt)
    (he : ∀ (A' : Around) (s : Shared) (H : Hp) (C : Addr) (cl : List (Str × Addr)) (code : Value) (fp : List Addr) (pn : List (Addr × Obj)), Room k A' → PE (X.genc A' s H (genEnv scope cl C code builtinsNs X.env) fp pn) elt te)
    (hs : ∀ x, genFold iter X.env x = pure x := by intro _; rfl) :
    PE X (.Call (.Name "tuple" p) [.GeneratorExp elt [⟨tg, iter, ifs, 0⟩] scope gpos] [] pos) (tTupG P ps wi g tt te (own.map (·.2))) := by
  intro pins s σ H Q I h
  refine wpAny_Call_Name_kw (ld_blt I hgl hm boot_tuple5 ?_)
  refine PyProof.Rows.callWith_type1 (Calls.spliced_cons (mk_gen (Ac := X.A.in1.in1.in1) hc hN hr hr.hd rfl (by show X.A.units + 1 + 1 + 1 ≤ _; omega) rfl I hi ok gk ck bk hg ht he hs h fun u s5 hn => Calls.spliced_nil ?_)) rfl rfl
  obtain ⟨Xg, fp, tn, J, H1, a, gn, rfl, e1, e2, back, I5, st5, kp5, nf5, lf5, ⟨W, ⟨m, w0⟩, hT⟩, hG⟩ := hn
  rw [← e1, ← e2]
  refine callType_codes (Q₁ := fun obj s₁ => s₁.TypeIs obj "tuple" ∧ EP X pins σ Q obj s₁) F.called_tuple (F.typeCall_tuple_1 _) F.entry_object_init ?_ fun obj s₁ h₁ => ?_
  · refine codeAny_of_tree ?_
    show wpAny _ X.A.in1.in1 (do checkBuiltinCall "tuple.__new__" ⟨[.type "tuple", .ref a], []⟩; again (.builtin "tuple.__new__" ⟨[.type "tuple", .ref a], []⟩)) _ _ s5
    refine wpAny_bind (wpAny_of_eq (F.newCall_tuple_1 _) (wpAny_pure ⟨plainId_quiet F.plain_tuple_new _, codeAny_builtin F.entry_tuple_new ?_⟩))
    rw [Around.under_plainId F.plain_tuple_new _]
    have hsub := sub_tuple_self
    have hinit := init_tuple_lookup
    have hmh := madeHere_tuple
    have hTI := ((back _ _ _ _ I5).2.1).typeIs
    have col : ∀ {Q' : List Value → Shared → Prop} {E' : Value → Shared → Prop}, (∀ ys us H' s', Inv Xg [] (wipe σ (own.map (·.2))) H' s' → (ys.length ≤ sizeLine ∧ ∀ p, H' p = none → Q (.ref p) (upd H' p (.tup ys))) → Vals ys us → Q' us s') → wpAny (model Xg.prog Xg.w) X.A.in1.in1 (collect (.ref a)) Q' E' s5 := fun {Q' E'} hq =>
      collectG (Xg := Xg) (W := W) (En := fun ys H => ys.length ≤ sizeLine ∧ ∀ p, H p = none → Q (.ref p) (upd H p (.tup ys))) hr.hd hr.depth (fun I => (back _ _ _ _ I).2.1) (fun I => (back _ _ _ _ I).2.2.2 _ (Nat.le_refl _)) (fun z => Nat.lt_irrefl _ (lf5 _ z)) kp5 I5 st5 nf5 w0
        (fun s6 h6 => hG [s5.heap.objs.size] _ _ _ (m + 1) (fun b hb z => by
          have e : b = s5.heap.objs.size := by simpa using hb
          rw [e] at z
          exact Nat.lt_irrefl _ (lf5 _ z)) (fun π => hT (PinL s5.heap.objs.size π) fun _ _ x y => x.inj y) s6 h6) hq
    wp_walk using wpAny_typeOf hTI, col
    intro ys us H' s' I' en hv
    obtain ⟨hz, q⟩ := en
    have hl := hv.length
    show wpAny _ _ (Builtin.Tuple.tupleExact us.toArray >>= fun v => ret v) _ _ _
    unfold Builtin.Tuple.tupleExact
    refine wpAny_bind (wpAny_newObj_type ?_ (by show us.toArray.size ≤ sizeLine; simp only [List.size_toArray]; omega))
    refine wpAny_pure ?_
    have J' := (back _ _ _ _ I').1
    have hf : H' s'.heap.objs.size = none := J'.hok.fresh (Nat.le_refl _)
    refine ⟨⟨_, Heap.get?_push_size _ rfl, rfl⟩, .ref s'.heap.objs.size, upd H' s'.heap.objs.size (.tup ys), J'.laid (t' := s'.toks) (fun b u e => Heap.get?_push_of_some _ e) (Nat.le_refl _) ?_, rfl, q _ hf⟩
    exact ⟨hz, us, hv, ⟨_, Heap.get?_push_size _ rfl, rfl, _, rfl⟩⟩
  · exact ⟨h₁.1, F.args_object_init_2 obj _, object_init_meets F.called_tuple.init.lookup F.called_tuple.made (by decide) _ _ X.A.in1 _ s₁ ⟨h₁.1, rfl, h₁.2⟩⟩
end
end L2

namespace L2
open PySem PySem.Spec PyProof.Rows
section
variable {prog : Program} {w : World} {A : Around} {E : Value → Shared → Prop} {s : Shared}

theorem each {α β : Type} {f : α → β → Sem (ForInStep β)} {Q : β → Shared → Prop} (I : List α → β → Shared → Prop) (stop : ∀ b s, I [] b s → Q b s)
    (turn : ∀ a l b s, I (a :: l) b s → wpAny (model prog w) A (f a b) (fun r s' => match r with | .yield b' => I l b' s' | .done b' => Q b' s') E s) : ∀ (l : List α) (b : β) (s : Shared), I l b s → wpAny (model prog w) A (forIn l b f) Q E s
  | [], b, s, h => by rw [List.forIn_nil]; exact wpAny_pure (stop b s h)
  | a :: l, b, s, h => by
    rw [List.forIn_cons]
    refine wpAny_bind (wpAny_mono (turn a l b s h) (fun r s' z => ?_) fun _ _ z => z)
    cases r with
    | yield b' => exact each I stop turn l b' s' z
    | done b' => exact wpAny_pure z

theorem stop_raised {α : Type} {Q : α → Shared → Prop} (quiet : A.handled = none) (q : ∀ h' e, (∀ b o, s.heap.get? b = some o → h'.get? b = some o) → (∃ o, h'.get? e = some o ∧ o.cls = .type "StopIteration") → E (.ref e) { s with heap := h' }) :
    wpAny (model prog w) A (Builtin.SmallTypes.stopIteration : Sem α) Q E s := by
  have member : firstArgMember (.type "StopIteration") [] = (pure Value.none : Sem Value) := by kernel_rfl
  refine wpAny_bind (wpAny_bind (wpAny_newTuple (wpAny_bind ?_) (Nat.zero_le _)))
  rw [member]
  exact wpAny_pure (wpAny_newObj_type (wpAny_raiseNew_none quiet (q _ _ (fun b o e => Heap.get?_push_of_some _ (Heap.get?_push_of_some _ e)) ⟨_, Heap.get?_push_size _ rfl, rfl⟩)))

theorem tup_asked {it t : Addr} {i : Nat} {items : Array Value} {P : Fin → Shared → Prop} (hit : s.heap.IsTupleIter it t i) (ht : s.heap.IsTuple t items)
    (item : ∀ x h', items[i]? = some x → h'.IsTupleIter it t (i + 1) → Heap.SameBut it s.heap h' → P (.done (.ret x)) { s with heap := h' })
    (ends : items[i]? = none → A.handled = none ∧ ∀ h' e, Heap.ExtBut it s.heap h' → (∃ o, h'.get? e = some o ∧ o.cls = .type "StopIteration") → E (.ref e) { s with heap := h' }) :
    wpAny (model prog w) A (Builtin.«tuple_iterator.__next__» ⟨[.ref it], []⟩) P E s := by
  obtain ⟨oi, hi, ci, di⟩ := id hit
  obtain ⟨ot, hot, _, n, dt⟩ := ht
  have live : ¬ (Value.ref t == Value.none) = true := nofun
  refine wpAny_bind (wpAny_pure (wpAny_bind (wpAny_field (x := .ref t) hi di rfl ?_)))
  dsimp only
  rw [if_neg live]
  refine wpAny_bind (wpAny_field (x := .int (i : Int) 0) hi di rfl (wpAny_bind (wpAny_seqItems hot dt ?_)))
  dsimp only
  rw [Int.toNat_natCast]
  cases got : items[i]? with
  | some x =>
    refine wpAny_bind (wpAny_setField hi di (Nat.lt_succ_self 1) (wpAny_pure (item x _ got ⟨_, Heap.get?_update_self _ hi (Obj.isFreed_of_fields (Obj.data_mapFields di _)), (Obj.cls_mapFields ..).trans ci, ?_⟩ (Heap.SameBut.update ..))))
    exact (Obj.data_mapFields di _).trans (by simp [rawInt])
  | none =>
    obtain ⟨quiet, q⟩ := ends got
    refine wpAny_bind (wpAny_rule (wpAny_bind (wpAny_setField hi di (Nat.zero_lt_succ 1) (stop_raised quiet fun h' e kept ex => q h' e (fun b o ne eb => kept b o ((Heap.get?_update_ne _ _ _ _ ne).trans eb)) ex))))

theorem tup_next {it t : Addr} {i : Nat} {items : Array Value} {Q : Value → Shared → Prop} (hit : s.heap.IsTupleIter it t i) (ht : s.heap.IsTuple t items)
    (item : ∀ x h', items[i]? = some x → h'.IsTupleIter it t (i + 1) → Heap.SameBut it s.heap h' → Q x { s with heap := h' })
    (ends : items[i]? = none → A.handled = none ∧ ∀ h' e, Heap.ExtBut it s.heap h' → (∃ o, h'.get? e = some o ∧ o.cls = .type "StopIteration") → E (.ref e) { s with heap := h' }) :
    wpAny (model prog w) A (Builtin.SmallTypes.nextOf (.ref it)) Q E s :=
  wpAny_bind (wpAny_callSpecial?_slot hit.typeIs F.slot_tuple_iterator_next (wpAny_call_entry F.slot_tuple_iterator_next hit.typeIs F.entry_tuple_iterator_next
    (tup_asked (A := A.in1) hit ht (fun x h' e a b => ⟨x, rfl, wpAny_pure (item x h' e a b)⟩) ends) (F.args_tuple_iterator_next_1 _)))


structure Sr where
  it : Addr
  R : Value → Prop
  St : Heap → Prop
  St' : Heap → Prop

def Moves (z TO : Addr) (its : List Addr) (b : Addr) : Prop := b = z ∨ b = TO ∨ b ∈ its
structure Sr.Ok (prog : Program) (w : World) (A : Around) (M : Addr → Prop) (r : Sr) : Prop where
  gives : ∀ (E : Value → Shared → Prop) (s : Shared) (Q : Value → Shared → Prop), r.St s.heap → (∀ h' tk x, r.R x → r.St' h' → Heap.SameBut r.it s.heap h' → Q x { s with heap := h', toks := tk }) → wpAny (model prog w) A (Builtin.SmallTypes.nextOf (.ref r.it)) Q E s
  keep : ∀ h h', r.St h → (∀ b o, (b = r.it ∨ ¬ M b) → h.get? b = some o → h'.get? b = some o) → r.St h'
  keep' : ∀ h h', r.St' h → (∀ b o, (b = r.it ∨ ¬ M b) → h.get? b = some o → h'.get? b = some o) → r.St' h'

structure ZipMid (h0 : Heap) (z TI TO : Addr) (M : Addr → Prop) (old xs : List Value) (d r : List Sr) (h : Heap) : Prop where
  told : Paired (fun q x => q.R x) d xs
  self : IsZip h z TI TO .ellipsis
  own : h.get? TO = some { cls := .type "tuple", data := .seq (xs ++ old.drop d.length).toArray }
  drawn : ∀ q ∈ d, q.St' h
  left : ∀ q ∈ r, q.St h
  rest : ∀ b o, ¬ M b → h0.get? b = some o → h.get? b = some o

theorem ZipMid.step {h0 h h1 : Heap} {z TI TO : Addr} {its : List Addr} {old xs : List Value} {x : Value} {d r : List Sr} {q : Sr} (ok : ∀ p ∈ d ++ q :: r, p.Ok prog w A (Moves z TO its)) (others : ∀ p ∈ d ++ r, p.it ≠ q.it ∧ p.it ≠ TO) (mine : q.it ∈ its ∧ q.it ≠ TO ∧ q.it ≠ z ∧ TO ≠ z) (len : d.length < old.length)
    (mid : ZipMid h0 z TI TO (Moves z TO its) old xs d (q :: r) h) (hx : q.R x) (st : q.St' h1) (sb : Heap.SameBut q.it h h1) : ZipMid h0 z TI TO (Moves z TO its) old (xs ++ [x]) (d ++ [q]) r (h1.update TO (Obj.mapSeq (·.setIfInBounds d.length x))) := by
  have hd := Paired.length mid.told
  have at1 : h1.get? TO = some { cls := .type "tuple", data := .seq (xs ++ old.drop d.length).toArray } := (sb.2 _ mine.2.1.symm).trans mid.own
  have own1 : ∀ b o, b ≠ TO → h1.get? b = some o → (h1.update TO (Obj.mapSeq (·.setIfInBounds d.length x))).get? b = some o := fun b o n e => (Heap.get?_update_ne _ _ _ _ n).trans e
  have moved : ∀ b o, b ≠ q.it → b ≠ TO → h.get? b = some o → (h1.update TO (Obj.mapSeq (·.setIfInBounds d.length x))).get? b = some o := fun b o n1 n2 e => own1 b o n2 ((sb.2 b n1).trans e)
  have still : ∀ b o, ¬ Moves z TO its b → h.get? b = some o → (h1.update TO (Obj.mapSeq (·.setIfInBounds d.length x))).get? b = some o := fun b o hb e => moved b o (fun n => hb (.inr (.inr (n ▸ mine.1)))) (fun n => hb (.inr (.inl n))) e
  have free : ∀ p, p ∈ d ++ r → ∀ b o, (b = p.it ∨ ¬ Moves z TO its b) → h.get? b = some o → (h1.update TO (Obj.mapSeq (·.setIfInBounds d.length x))).get? b = some o := fun p hp b o hb e =>
    hb.elim (fun n => moved b o (n ▸ (others p hp).1) (n ▸ (others p hp).2) e) fun n => still b o n e
  have okd : ∀ p ∈ d, p.Ok prog w A (Moves z TO its) := fun p hp => ok p (List.mem_append_left _ hp)
  have okr : ∀ p ∈ r, p.Ok prog w A (Moves z TO its) := fun p hp => ok p (List.mem_append_right _ (List.mem_cons_of_mem _ hp))
  refine ⟨mid.told.snoc hx, moved _ _ mine.2.2.1.symm mine.2.2.2.symm mid.self, ?_, fun p hp => ?_, fun p hp => (okr p hp).keep _ _ (mid.left p (List.mem_cons_of_mem _ hp)) (free p (List.mem_append_right _ hp)), fun b o hb e => still b o hb (mid.rest b o hb e)⟩
  · have laid : (xs ++ old.drop d.length).toArray.setIfInBounds d.length x = ((xs ++ [x]) ++ old.drop (d ++ [q]).length).toArray := by
      rw [List.setIfInBounds_toArray, List.set_append_right _ _ (by omega), show d.length - xs.length = 0 by omega, List.drop_eq_getElem_cons len, List.set_cons_zero]
      simp
    rw [Heap.get?_update_self _ at1 rfl]
    show some ({ cls := .type "tuple", data := .seq ((xs ++ old.drop d.length).toArray.setIfInBounds d.length x) (if ((xs ++ old.drop d.length).toArray.setIfInBounds d.length x).size == (xs ++ old.drop d.length).toArray.size then 0 else 1) } : Obj) = _
    rw [Array.size_setIfInBounds, beq_self_eq_true, if_pos rfl, laid]
  · rcases List.mem_append.mp hp with a | a
    · exact (okd p a).keep' _ _ (mid.drawn p a) (free p (List.mem_append_left _ a))
    · obtain rfl : p = q := by simpa using a
      exact (ok p (List.mem_append_right _ List.mem_cons_self)).keep' _ _ st fun b o hb e => own1 b o (fun n => hb.elim (fun m => mine.2.1 (m.symm.trans n)) fun m => m (.inr (.inl n))) e

theorem zip_gives {z TI TO : Addr} {rs : List Sr} {old : List Value} {Q : Value → Shared → Prop} (hz : IsZip s.heap z TI TO .none) (hI : s.heap.get? TI = some { cls := .type "tuple", data := .seq (rs.map fun r => Value.ref r.it).toArray }) (hO : s.heap.get? TO = some { cls := .type "tuple", data := .seq old.toArray })
    (some_ : rs ≠ []) (size : old.length = rs.length) (few : rs.length ≤ 8) (ok : ∀ r ∈ rs, r.Ok prog w A (Moves z TO (rs.map (·.it)))) (unlike : (rs.map (·.it)).Nodup) (apart : ∀ r ∈ rs, r.it ≠ TO ∧ r.it ≠ z) (toz : TO ≠ z) (st : ∀ r ∈ rs, r.St s.heap)
    (q : ∀ h' tk xs, Paired (fun r x => r.R x) rs xs → IsZip h' z TI TO (rawInt s.heap.objs.size) → h'.get? TO = some { cls := .type "tuple", data := .seq xs.toArray } → (∀ r ∈ rs, r.St' h') → h'.get? s.heap.objs.size = some { cls := .type "tuple", data := .seq xs.toArray } → (∀ b o, ¬ Moves z TO (rs.map (·.it)) b → s.heap.get? b = some o → h'.get? b = some o) → Q (.ref s.heap.objs.size) { s with heap := h', toks := tk }) :
    wpAny (model prog w) A (Builtin.«zip.__next__» ⟨[.ref z], []⟩) (fun fin s' => ∃ v, fin = .done (.ret v) ∧ Q v s') E s := by
  refine wpAny_bind (wpAny_pure (wpAny_bind (wpAny_field (x := .bool false) hz rfl rfl (wpAny_bind (wpAny_field (x := .ref TI) hz rfl rfl (wpAny_bind (wpAny_seqItems hI rfl ?_)))))))
  dsimp only
  rw [if_neg (by simpa using some_)]
  refine wpAny_bind (wpAny_bind (wpAny_field (x := .none) hz rfl rfl (wpAny_pure ?_)))
  show wpAny _ _ (if true = true then _ else _) _ _ _
  rw [if_pos rfl]
  refine wpAny_bind (wpAny_rule (wpAny_bind (wpAny_field (x := .ref TO) hz rfl rfl ?_)))
  dsimp only
  refine wpAny_bind (wpAny_setField_rec hz (show 0 < 5 by decide) fun h1 self1 sb1 => wpAny_bind ?_)
  have start : ZipMid s.heap z TI TO (Moves z TO (rs.map (·.it))) old [] [] rs h1 := ⟨.nil, self1, (sb1.2 _ toz).trans (by simpa using hO), nofun, fun r hr => (ok r hr).keep _ _ (st r hr) fun b o hb e => (sb1.2 b (fun n => hb.elim (fun m => (apart r hr).2 (m.symm.trans n)) fun m => m (.inl n))).trans e, fun b o hb e => (sb1.2 b (fun n => hb (.inl n))).trans e⟩
  refine each (fun l (b : Option Fin × Unit) (s' : Shared) => b = (none, ()) ∧ ∃ d r xs h' tk, rs = d ++ r ∧ l = (r.map fun r => Value.ref r.it).zipIdx d.length ∧ s' = { s with heap := h', toks := tk } ∧ h'.objs.size = s.heap.objs.size ∧ ZipMid s.heap z TI TO (Moves z TO (rs.map (·.it))) old xs d r h') ?stop ?turn _ _ _ ⟨rfl, [], rs, [], h1, s.toks, rfl, by simp, rfl, sb1.1, start⟩
  case turn =>
    rintro ⟨v, k⟩ l b s' ⟨rfl, d, r, xs, h', tk, split, hl, rfl, hs, mid⟩
    cases r with
    | nil => simp at hl
    | cons p r =>
      obtain ⟨⟨rfl, rfl⟩, rfl⟩ : (v = Value.ref p.it ∧ k = d.length) ∧ l = (r.map fun r => Value.ref r.it).zipIdx (d.length + 1) := by simpa using hl
      have pm : p ∈ rs := by rw [split]; simp
      have und := unlike
      rw [split, List.map_append, List.map_cons] at und
      have nd := List.nodup_append.mp und
      have others : ∀ q ∈ d ++ r, q.it ≠ p.it ∧ q.it ≠ TO := by
        intro q hq
        have qm : q ∈ rs := by rw [split]; rcases List.mem_append.mp hq with a | a <;> simp [a]
        refine ⟨?_, (apart q qm).1⟩
        rcases List.mem_append.mp hq with a | a
        · exact nd.2.2 _ (List.mem_map_of_mem a) _ List.mem_cons_self
        · exact fun n => (List.nodup_cons.mp nd.2.1).1 (n ▸ List.mem_map_of_mem a)
      have len : d.length < old.length := by rw [size, split]; simp
      have big : 9 ≤ sizeLine := by decide
      have hd := Paired.length mid.told
      have wide : (xs ++ old.drop d.length).toArray.size = old.length := by rw [List.size_toArray, List.length_append, List.length_drop]; omega
      refine wpAny_bind (wpAny_onRaise ?_)
      show wpAny _ _ (Builtin.SmallTypes.nextOf (.ref p.it) >>= fun x => pure (some x)) _ _ _
      refine wpAny_bind ((ok p pm).gives _ { s with heap := h', toks := tk } _ (mid.left p List.mem_cons_self) fun h2 tk2 x hx st2 sb2 => wpAny_pure ?_)
      have at2 : h2.get? TO = some { cls := .type "tuple", data := .seq (xs ++ old.drop d.length).toArray } := (sb2.2 _ (apart p pm).1.symm).trans mid.own
      refine wpAny_bind (wpAny_seqItems (s := { s with heap := h2, toks := tk2 }) at2 rfl (wpAny_bind (wpAny_updateSeq at2 rfl (wpAny_bind (wpAny_letGo (wpAny_pure ?_))) (by omega) (by rw [Array.size_setIfInBounds]; omega))))
      refine ⟨rfl, d ++ [p], r, xs ++ [x], _, tk2, by rw [split]; simp, by simp, rfl, (Heap.size_update ..).trans (sb2.1.trans hs), ?_⟩
      exact mid.step (prog := prog) (w := w) (A := A) (fun q hq => ok q (split ▸ hq)) others ⟨List.mem_map_of_mem pm, (apart p pm).1, (apart p pm).2, toz⟩ len hx st2 sb2
  case stop =>
    rintro b s' ⟨rfl, d, r, xs, h', tk, split, hl, rfl, hs, mid⟩
    obtain rfl : r = [] := by cases r with | nil => rfl | cons p r => simp at hl
    obtain rfl : rs = d := by rw [split, List.append_nil]
    have hd := Paired.length mid.told
    have all : xs ++ old.drop rs.length = xs := by rw [List.drop_of_length_le (by omega), List.append_nil]
    have own := mid.own
    rw [all] at own
    have big : 9 ≤ sizeLine := by decide
    refine wpAny_bind (wpAny_seqItems (s := { s with heap := h', toks := tk }) own rfl (wpAny_bind (wpAny_newTuple ?_ (by show xs.length ≤ _; omega))))
    have self2 : IsZip (h'.push { cls := .type "tuple", data := .seq xs.toArray }) z TI TO .ellipsis := Heap.get?_push_of_some _ mid.self
    refine wpAny_bind (wpAny_bind (wpAny_setField_rec self2 (show 0 < 5 by decide) fun h2 e2 sb2 => wpAny_setField_rec e2 (show 1 < 5 by decide) fun h3 e3 sb3 => wpAny_pure ⟨_, rfl, ?_⟩))
    have zlt : z < h'.objs.size := Heap.lt_size mid.self
    have up : ∀ b o, b ≠ z → (h'.push { cls := .type "tuple", data := .seq xs.toArray }).get? b = some o → h3.get? b = some o := fun b o n e => (sb3.2 b n).trans ((sb2.2 b n).trans e)
    have keepAll : ∀ b o, b ≠ z → h'.get? b = some o → h3.get? b = some o := fun b o n e => up b o n (Heap.get?_push_of_some _ e)
    rw [hs] at e3
    show Q (.ref h'.objs.size) _
    rw [hs]
    refine q h3 tk xs mid.told e3 (keepAll _ _ toz own) (fun r hr => (ok r hr).keep' _ _ (mid.drawn r hr) fun b o hb e => keepAll b o (fun n => hb.elim (fun m => (apart r hr).2 (m.symm.trans n)) fun m => m (.inl n)) e) ?_ fun b o hb e => keepAll b o (fun n => hb (.inl n)) (mid.rest b o hb e)
    rw [← hs]
    exact up _ _ (Nat.ne_of_gt zlt) (Heap.get?_push_size _ rfl)

theorem zip_ends {z TI TO e : Addr} {rs : List Sr} {more old : List Value} {Ste : Heap → Prop} {P : Fin → Shared → Prop} (hz : IsZip s.heap z TI TO .none) (hI : s.heap.get? TI = some { cls := .type "tuple", data := .seq ((rs.map fun r => Value.ref r.it) ++ Value.ref e :: more).toArray }) (hO : s.heap.get? TO = some { cls := .type "tuple", data := .seq old.toArray })
    (size : rs.length < old.length) (few : old.length ≤ 8) (ok : ∀ r ∈ rs, r.Ok prog w A (Moves z TO (e :: rs.map (·.it)))) (unlike : (e :: rs.map (·.it)).Nodup) (apart : (e ≠ TO ∧ e ≠ z) ∧ ∀ r ∈ rs, r.it ≠ TO ∧ r.it ≠ z) (toz : TO ≠ z) (st : ∀ r ∈ rs, r.St s.heap) (ste : Ste s.heap)
    (keepe : ∀ h h', Ste h → (∀ b o, (b = e ∨ ¬ Moves z TO (e :: rs.map (·.it)) b) → h.get? b = some o → h'.get? b = some o) → Ste h')
    (ends : ∀ (E : Value → Shared → Prop) (s : Shared) (Q : Value → Shared → Prop), Ste s.heap → (∀ h' x, Heap.ExtBut e s.heap h' → (∃ o, h'.get? x = some o ∧ o.cls = .type "StopIteration") → E (.ref x) { s with heap := h' }) → wpAny (model prog w) A (Builtin.SmallTypes.nextOf (.ref e)) Q E s)
    (q : ∀ h' tk x, (∀ b o, ¬ Moves z TO (e :: rs.map (·.it)) b → s.heap.get? b = some o → h'.get? b = some o) → (∃ o, h'.get? x = some o ∧ o.cls = .type "StopIteration") → E (.ref x) { s with heap := h', toks := tk }) :
    wpAny (model prog w) A (Builtin.«zip.__next__» ⟨[.ref z], []⟩) P E s := by
  refine wpAny_bind (wpAny_pure (wpAny_bind (wpAny_field (x := .bool false) hz rfl rfl (wpAny_bind (wpAny_field (x := .ref TI) hz rfl rfl (wpAny_bind (wpAny_seqItems hI rfl ?_)))))))
  dsimp only
  rw [if_neg (by simp)]
  refine wpAny_bind (wpAny_bind (wpAny_field (x := .none) hz rfl rfl (wpAny_pure ?_)))
  show wpAny _ _ (if true = true then _ else _) _ _ _
  rw [if_pos rfl]
  refine wpAny_bind (wpAny_rule (wpAny_bind (wpAny_field (x := .ref TO) hz rfl rfl ?_)))
  dsimp only
  refine wpAny_bind (wpAny_setField_rec hz (show 0 < 5 by decide) fun h1 self1 sb1 => wpAny_bind ?_)
  have calm : ∀ {h : Heap} {b : Addr} {o : Obj}, Heap.SameBut z h h1 → b ≠ z → h.get? b = some o → h1.get? b = some o := fun sb n g => (sb.2 _ n).trans g
  have start : ZipMid s.heap z TI TO (Moves z TO (e :: rs.map (·.it))) old [] [] rs h1 := ⟨.nil, self1, calm sb1 toz (by simpa using hO), nofun, fun r hr => (ok r hr).keep _ _ (st r hr) fun b o hb g => calm sb1 (fun n => hb.elim (fun m => (apart.2 r hr).2 (m.symm.trans n)) fun m => m (.inl n)) g, fun b o hb g => calm sb1 (fun n => hb (.inl n)) g⟩
  have ste1 : Ste h1 := keepe _ _ ste fun b o hb g => calm sb1 (fun n => hb.elim (fun m => apart.1.2 (m.symm.trans n)) fun m => m (.inl n)) g
  refine each (fun l (b : Option Fin × Unit) (s' : Shared) => b = (none, ()) ∧ ∃ d r xs h' tk, rs = d ++ r ∧ l = ((r.map fun r => Value.ref r.it) ++ Value.ref e :: more).zipIdx d.length ∧ s' = { s with heap := h', toks := tk } ∧ Ste h' ∧ ZipMid s.heap z TI TO (Moves z TO (e :: rs.map (·.it))) old xs d r h') ?stop ?turn _ _ _ ⟨rfl, [], rs, [], h1, s.toks, rfl, by simp, rfl, ste1, start⟩
  case stop =>
    rintro b s' ⟨rfl, d, r, xs, h', tk, split, hl, rfl, _, mid⟩
    simp at hl
  case turn =>
    rintro ⟨v, k⟩ l b s' ⟨rfl, d, r, xs, h', tk, split, hl, rfl, ste', mid⟩
    cases r with
    | nil =>
      obtain ⟨⟨rfl, rfl⟩, rfl⟩ : (v = Value.ref e ∧ k = d.length) ∧ l = more.zipIdx (d.length + 1) := by simpa using hl
      refine wpAny_bind (wpAny_onRaise ?_)
      show wpAny _ _ (Builtin.SmallTypes.nextOf (.ref e) >>= fun x => pure (some x)) _ _ _
      refine wpAny_bind (ends _ { s with heap := h', toks := tk } _ ste' fun h2 x ext stop => ?_)
      have self2 : IsZip h2 z TI TO .ellipsis := ext _ _ apart.1.2.symm mid.self
      refine wpAny_setField_rec (s := { s with heap := h2, toks := tk }) self2 (show 0 < 5 by decide) fun h3 e3 sb3 => q h3 tk x (fun b o hb g => (sb3.2 b (fun n => hb (.inl n))).trans (ext b o (fun n => hb (.inr (.inr (n ▸ List.mem_cons_self)))) (mid.rest b o hb g))) ?_
      obtain ⟨o, ho, hc⟩ := stop
      refine ⟨o, (sb3.2 x fun n => ?_).trans ho, hc⟩
      rw [n, self2] at ho
      cases ho
      exact absurd (Value.type.inj hc) (by decide)
    | cons p r =>
      obtain ⟨⟨rfl, rfl⟩, rfl⟩ : (v = Value.ref p.it ∧ k = d.length) ∧ l = ((r.map fun r => Value.ref r.it) ++ Value.ref e :: more).zipIdx (d.length + 1) := by simpa using hl
      have pm : p ∈ rs := by rw [split]; simp
      have ne : e ≠ p.it := fun n => (List.nodup_cons.mp unlike).1 (n ▸ List.mem_map_of_mem pm)
      have und := (List.nodup_cons.mp unlike).2
      rw [split, List.map_append, List.map_cons] at und
      have nd := List.nodup_append.mp und
      have others : ∀ q ∈ d ++ r, q.it ≠ p.it ∧ q.it ≠ TO := by
        intro q hq
        have qm : q ∈ rs := by rw [split]; rcases List.mem_append.mp hq with a | a <;> simp [a]
        refine ⟨?_, (apart.2 q qm).1⟩
        rcases List.mem_append.mp hq with a | a
        · exact nd.2.2 _ (List.mem_map_of_mem a) _ List.mem_cons_self
        · exact fun n => (List.nodup_cons.mp nd.2.1).1 (n ▸ List.mem_map_of_mem a)
      have len : d.length < old.length := Nat.lt_of_le_of_lt (by rw [split]; simp) size
      have big : 9 ≤ sizeLine := by decide
      have hd := Paired.length mid.told
      have wide : (xs ++ old.drop d.length).toArray.size = old.length := by rw [List.size_toArray, List.length_append, List.length_drop]; omega
      refine wpAny_bind (wpAny_onRaise ?_)
      show wpAny _ _ (Builtin.SmallTypes.nextOf (.ref p.it) >>= fun x => pure (some x)) _ _ _
      refine wpAny_bind ((ok p pm).gives _ { s with heap := h', toks := tk } _ (mid.left p List.mem_cons_self) fun h2 tk2 x hx st2 sb2 => wpAny_pure ?_)
      have at2 : h2.get? TO = some { cls := .type "tuple", data := .seq (xs ++ old.drop d.length).toArray } := (sb2.2 _ (apart.2 p pm).1.symm).trans mid.own
      refine wpAny_bind (wpAny_seqItems (s := { s with heap := h2, toks := tk2 }) at2 rfl (wpAny_bind (wpAny_updateSeq at2 rfl (wpAny_bind (wpAny_letGo (wpAny_pure ?_))) (by omega) (by rw [Array.size_setIfInBounds]; omega))))
      refine ⟨rfl, d ++ [p], r, xs ++ [x], _, tk2, by rw [split]; simp, by simp, rfl, ?_, ?_⟩
      · exact keepe _ _ ste' fun b o hb g => (Heap.get?_update_ne _ _ _ _ (fun n => hb.elim (fun m => apart.1.1 (m.symm.trans n)) fun m => m (.inr (.inl n)))).trans ((sb2.2 b (fun n => hb.elim (fun m => ne (m.symm.trans n)) fun m => m (.inr (.inr (n ▸ List.mem_cons_of_mem _ (List.mem_map_of_mem pm)))))).trans g)
      · exact mid.step (prog := prog) (w := w) (A := A) (fun q hq => ok q (split ▸ hq)) others ⟨List.mem_cons_of_mem _ (List.mem_map_of_mem pm), (apart.2 p pm).1, (apart.2 p pm).2, toz⟩ len hx st2 sb2
end
end L2

namespace L2
open PySem PySem.Spec PyProof.Rows



structure ZS where
  tup : Bool
  it : Addr
  l : Addr
def ZS.At (z : ZS) (h : Heap) (k : Nat) : Prop := match z.tup with
  | true => h.IsTupleIter z.it z.l k
  | false => h.IsListIter z.it z.l k
def ZS.Src (z : ZS) (h : Heap) (xs : Array Value) : Prop := match z.tup with
  | true => h.IsTuple z.l xs
  | false => h.IsList z.l xs
theorem ZS.At.at {z : ZS} {h h' : Heap} {k : Nat} (x : z.At h k) (f : ∀ o, h.get? z.it = some o → h'.get? z.it = some o) : z.At h' k := by
  obtain ⟨t, i, l⟩ := z
  cases t with
  | true => obtain ⟨o, e, r⟩ := x; exact ⟨o, f o e, r⟩
  | false => obtain ⟨o, e, r⟩ := x; exact ⟨o, f o e, r⟩
theorem ZS.Src.at {z : ZS} {h h' : Heap} {xs : Array Value} (x : z.Src h xs) (f : ∀ o, h.get? z.l = some o → h'.get? z.l = some o) : z.Src h' xs := by
  obtain ⟨t, i, l⟩ := z
  cases t with
  | true => obtain ⟨o, e, r⟩ := x; exact ⟨o, f o e, r⟩
  | false => obtain ⟨o, e, r⟩ := x; exact ⟨o, f o e, r⟩
theorem ZS.At.obj {z : ZS} {h : Heap} {k : Nat} (x : z.At h k) : ∃ o, h.get? z.it = some o ∧ ∀ v, o.data ≠ .cell v := by
  obtain ⟨t, i, l⟩ := z
  cases t with
  | true => obtain ⟨o, e, c, d⟩ := x; exact ⟨o, e, fun v q => by rw [d] at q; cases q⟩
  | false => obtain ⟨o, e, c, d⟩ := x; exact ⟨o, e, fun v q => by rw [d] at q; cases q⟩
section
variable {prog : Program} {w : World} {A : Around} {E : Value → Shared → Prop} {s : Shared}

theorem ZS.next {z : ZS} {i : Nat} {xs : Array Value} {Q : Value → Shared → Prop} (h1 : z.At s.heap i) (h2 : z.Src s.heap xs) (item : ∀ x h', xs[i]? = some x → z.At h' (i + 1) → Heap.SameBut z.it s.heap h' → Q x { s with heap := h' })
    (ends : xs[i]? = none → A.handled = none ∧ ∀ h' e, Heap.ExtBut z.it s.heap h' → (∃ o, h'.get? e = some o ∧ o.cls = .type "StopIteration") → E (.ref e) { s with heap := h' }) : wpAny (model prog w) A (Builtin.SmallTypes.nextOf (.ref z.it)) Q E s := by
  obtain ⟨t, it, l⟩ := z
  cases t with
  | true => exact tup_next h1 h2 item ends
  | false =>
    cases got : xs[i]? with
    | some x => exact wpAny_nextOf_list_item h1 h2 got fun h' => item x h' got
    | none => exact wpAny_nextOf_list_end (ends got).1 h1 h2 got (ends got).2
theorem ZS.next_item {z : ZS} {i : Nat} {xs : Array Value} {x : Value} {Q : Value → Shared → Prop} (h1 : z.At s.heap i) (h2 : z.Src s.heap xs) (hx : xs[i]? = some x)
    (hQ : ∀ h', z.At h' (i + 1) → Heap.SameBut z.it s.heap h' → Q x { s with heap := h' }) : wpAny (model prog w) A (Builtin.SmallTypes.nextOf (.ref z.it)) Q E s :=
  ZS.next h1 h2 (fun y h' e => (Option.some.inj (hx.symm.trans e)) ▸ hQ h') fun e => nomatch hx.symm.trans e
theorem ZS.next_end {z : ZS} {i : Nat} {xs : Array Value} {Q : Value → Shared → Prop} (hh : A.handled = none) (h1 : z.At s.heap i) (h2 : z.Src s.heap xs) (hx : xs[i]? = none)
    (hE : ∀ h' e, Heap.ExtBut z.it s.heap h' → (∃ o, h'.get? e = some o ∧ o.cls = .type "StopIteration") → E (.ref e) { s with heap := h' }) : wpAny (model prog w) A (Builtin.SmallTypes.nextOf (.ref z.it)) Q E s :=
  ZS.next h1 h2 (fun y h' e => nomatch hx.symm.trans e) fun _ => ⟨hh, hE⟩

theorem zip_told {z TI TO : Addr} {f0 : Value} {Q : Option Value → Shared → Prop} (hz : IsZip s.heap z TI TO f0)
    (h : wpAny (model prog w) A.in1 (Builtin.«zip.__next__» ⟨[.ref z], []⟩) (fun fin s' => ∃ v, fin = .done (.ret v) ∧ Q (some v) s') (fun x s' => ∃ e o, x = .ref e ∧ s'.heap.get? e = some o ∧ o.cls = .type "StopIteration" ∧ Q none s') s) : wpAny (model prog w) A (pyNext (.ref z)) Q E s := by
  have ty : s.TypeIs (.ref z) "zip" := ⟨_, hz, rfl⟩
  refine wpAny_bind (wpAny_attempt (wpAny_callSpecial?_slot ty F.slot_zip_next (wpAny_mono (wpAny_call_entry (E := fun x s' => ∃ e o, x = .ref e ∧ s'.heap.get? e = some o ∧ o.cls = .type "StopIteration" ∧ Q none s') F.slot_zip_next ty F.entry_zip_next h (F.args_zip_next_1 _)) (fun v s' q => wpAny_pure q) ?_)))
  rintro x s' ⟨e, o, rfl, ho, hc, q⟩
  exact wpAny_bind (wpAny_isInstance ⟨o, ho, hc⟩ isSubtype_stop (wpAny_pure q))

def ZS.sr (z : ZS) (i : Nat) (xs : Array Value) (x : Value) : Sr := ⟨z.it, (· = x), fun h => z.At h i ∧ z.Src h xs, fun h => z.At h (i + 1) ∧ z.Src h xs⟩
theorem ZS.sr_ok {z : ZS} {i : Nat} {xs : Array Value} {x : Value} {M : Addr → Prop} (hx : xs[i]? = some x) (ne : z.l ≠ z.it) (still : ¬ M z.l) : (z.sr i xs x).Ok prog w A M where
  gives := fun _ s _ st q => ZS.next_item st.1 st.2 hx fun h' a sb => q h' s.toks x rfl ⟨a, st.2.at fun o e => (sb.2 _ ne).trans e⟩ sb
  keep := fun _ _ st k => ⟨st.1.at fun o e => k _ o (.inl rfl) e, st.2.at fun o e => k _ o (.inr still) e⟩
  keep' := fun _ _ st k => ⟨st.1.at fun o e => k _ o (.inl rfl) e, st.2.at fun o e => k _ o (.inr still) e⟩
theorem not_moves {z TO b : Nat} {its : List Nat} (h1 : b ≠ z) (h2 : b ≠ TO) (h3 : ∀ i ∈ its, b ≠ i) : ¬ Moves z TO its b := fun h => h.elim h1 fun h => h.elim h2 fun h => h3 b h rfl
structure Apart2 (B : Nat) (z1 : ZS) (z2 : ZS) : Prop where
  i1 : B + 0 = z1.it
  l1 : z1.l < B
  i2 : B + 1 = z2.it
  l2 : z2.l < B
def Zn2 (B : Nat) (z1 : ZS) (z2 : ZS) (i : Nat) (h : Heap) : Prop := IsZip h (B + 4) (B + 2) (B + 3) .none ∧ h.get? (B + 2) = some { cls := .type "tuple", data := .seq #[.ref z1.it, .ref z2.it] } ∧ (∃ a1 a2, h.get? (B + 3) = some { cls := .type "tuple", data := .seq #[a1, a2] }) ∧ z1.At h i ∧ z2.At h i
theorem zip2_next {B i : Nat} {z1 z2 : ZS} {y1 y2 : Array Value} {x1 x2 a1 a2 : Value} {Q : Option Value → Shared → Prop} (D : Apart2 B z1 z2)
    (hz : IsZip s.heap (B + 4) (B + 2) (B + 3) .none) (hTI : s.heap.get? (B + 2) = some { cls := .type "tuple", data := .seq #[.ref z1.it, .ref z2.it] }) (hTO : s.heap.get? (B + 3) = some { cls := .type "tuple", data := .seq #[a1, a2] }) (h1 : z1.At s.heap i) (l1 : z1.Src s.heap y1) (h2 : z2.At s.heap i) (l2 : z2.Src s.heap y2) (e1 : y1[i]? = some x1) (e2 : y2[i]? = some x2)
    (hQ : ∀ h' tk, IsZip h' (B + 4) (B + 2) (B + 3) (rawInt s.heap.objs.size) → h'.get? (B + 3) = some { cls := .type "tuple", data := .seq #[x1, x2] } → z1.At h' (i + 1) → z2.At h' (i + 1) → h'.get? s.heap.objs.size = some { cls := .type "tuple", data := .seq #[x1, x2] } →
      (∀ c o, c ≠ (B + 4) → c ≠ (B + 3) → c ≠ z1.it → c ≠ z2.it → s.heap.get? c = some o → h'.get? c = some o) → Q (some (.ref s.heap.objs.size)) { s with heap := h', toks := tk }) : wpAny (model prog w) A (pyNext (.ref (B + 4))) Q E s := by
  obtain ⟨t1, it1, so1⟩ := z1
  obtain ⟨t2, it2, so2⟩ := z2
  obtain ⟨i1, u1, i2, u2⟩ := D
  dsimp only at i1 u1 i2 u2
  subst i1 i2
  have v1 : @LT.lt Nat _ so1 B := u1
  have v2 : @LT.lt Nat _ so2 B := u2
  refine zip_told hz (zip_gives (A := A.in1) (z := B + 4) (TI := B + 2) (TO := B + 3) (rs := [ZS.sr (⟨t1, B + 0, so1⟩ : ZS) i y1 x1, ZS.sr (⟨t2, B + 1, so2⟩ : ZS) i y2 x2]) (old := [a1, a2]) (Q := fun v s' => Q (some v) s') hz hTI hTO (by simp) rfl (show 2 ≤ 8 by decide) (by simp only [List.forall_mem_cons]; exact ⟨ZS.sr_ok (z := (⟨t1, B + 0, so1⟩ : ZS)) e1 (fun h : @Eq Nat (so1) (B + 0) => by omega) (not_moves (b := so1) (z := B + 4) (TO := B + 3) (its := [B + 0, B + 1]) (fun h : @Eq Nat (so1) (B + 4) => by omega) (fun h : @Eq Nat (so1) (B + 3) => by omega) (by simp only [List.forall_mem_cons]; exact ⟨(fun h : @Eq Nat (so1) (B + 0) => by omega), (fun h : @Eq Nat (so1) (B + 1) => by omega), nofun⟩)), ZS.sr_ok (z := (⟨t2, B + 1, so2⟩ : ZS)) e2 (fun h : @Eq Nat (so2) (B + 1) => by omega) (not_moves (b := so2) (z := B + 4) (TO := B + 3) (its := [B + 0, B + 1]) (fun h : @Eq Nat (so2) (B + 4) => by omega) (fun h : @Eq Nat (so2) (B + 3) => by omega) (by simp only [List.forall_mem_cons]; exact ⟨(fun h : @Eq Nat (so2) (B + 0) => by omega), (fun h : @Eq Nat (so2) (B + 1) => by omega), nofun⟩)), nofun⟩) (List.Pairwise.cons (by simp only [List.map_cons, List.map_nil, ZS.sr, List.forall_mem_cons]; exact ⟨(fun h : @Eq Nat (B + 0) (B + 1) => by omega), nofun⟩) (List.Pairwise.cons nofun List.Pairwise.nil)) (by simp only [List.map_cons, List.map_nil, ZS.sr, List.forall_mem_cons]; exact ⟨⟨(fun h : @Eq Nat (B + 0) (B + 3) => by omega), (fun h : @Eq Nat (B + 0) (B + 4) => by omega)⟩, ⟨(fun h : @Eq Nat (B + 1) (B + 3) => by omega), (fun h : @Eq Nat (B + 1) (B + 4) => by omega)⟩, nofun⟩) (fun h : @Eq Nat (B + 3) (B + 4) => by omega) (by simp only [List.map_cons, List.map_nil, ZS.sr, List.forall_mem_cons]; exact ⟨⟨h1, l1⟩, ⟨h2, l2⟩, nofun⟩) fun h' tk us pr q1 q2 q3 q4 q5 => ?_)
  obtain rfl : us = [x1, x2] := by
    cases pr with | cons r1 p1 => cases p1 with | cons r2 p2 => cases p2; cases r1; cases r2; rfl
  simp only [List.forall_mem_cons] at q3
  exact hQ h' tk q1 q2 q3.1.1 q3.2.1.1 q4 fun c o n0 n1 n2 n3 g => q5 c o (not_moves n0 n1 (by simp only [List.map_cons, List.map_nil, ZS.sr, List.forall_mem_cons]; exact ⟨n2, n3, nofun⟩)) g
theorem zip2_stop {B i : Nat} {z1 z2 : ZS} {y1 y2 : Array Value} {a1 a2 : Value} {Q : Option Value → Shared → Prop} (hh : A.handled = none) (D : Apart2 B z1 z2)
    (hz : IsZip s.heap (B + 4) (B + 2) (B + 3) .none) (hTI : s.heap.get? (B + 2) = some { cls := .type "tuple", data := .seq #[.ref z1.it, .ref z2.it] }) (hTO : s.heap.get? (B + 3) = some { cls := .type "tuple", data := .seq #[a1, a2] }) (h1 : z1.At s.heap i) (l1 : z1.Src s.heap y1) (h2 : z2.At s.heap i) (l2 : z2.Src s.heap y2) (hend : y1[i]? = none ∨ y2[i]? = none)
    (hQ : ∀ h' tk, (∀ c o, c ≠ (B + 4) → c ≠ (B + 3) → c ≠ z1.it → c ≠ z2.it → s.heap.get? c = some o → h'.get? c = some o) → Q none { s with heap := h', toks := tk }) : wpAny (model prog w) A (pyNext (.ref (B + 4))) Q E s := by
  obtain ⟨t1, it1, so1⟩ := z1
  obtain ⟨t2, it2, so2⟩ := z2
  obtain ⟨i1, u1, i2, u2⟩ := D
  dsimp only at i1 u1 i2 u2
  subst i1 i2
  have v1 : @LT.lt Nat _ so1 B := u1
  have v2 : @LT.lt Nat _ so2 B := u2
  have fin : ∀ (h' : Heap) (tk : Nat) (x : Addr), (∀ c o, c ≠ B + 4 → c ≠ B + 3 → c ≠ B + 0 → c ≠ B + 1 → s.heap.get? c = some o → h'.get? c = some o) → (∃ o, h'.get? x = some o ∧ o.cls = .type "StopIteration") → ∃ e o, Value.ref x = .ref e ∧ h'.get? e = some o ∧ o.cls = .type "StopIteration" ∧ Q none { s with heap := h', toks := tk } := fun h' tk x k ⟨o, ho, hc⟩ => ⟨x, o, rfl, ho, hc, hQ h' tk k⟩
  have go1 : y1[i]? = none → wpAny (model prog w) A (pyNext (.ref (B + 4))) Q E s := by
    intro  end_
    refine zip_told hz (zip_ends (A := A.in1) (z := B + 4) (TI := B + 2) (TO := B + 3) (e := B + 0) (rs := []) (more := [.ref (B + 1)]) (old := [a1, a2]) (Ste := fun h => ZS.At (⟨t1, B + 0, so1⟩ : ZS) h i ∧ ZS.Src (⟨t1, B + 0, so1⟩ : ZS) h y1) hz hTI hTO (show 0 < 2 by decide) (show 2 ≤ 8 by decide) nofun (List.Pairwise.cons nofun List.Pairwise.nil) ⟨⟨(fun h : @Eq Nat (B + 0) (B + 3) => by omega), (fun h : @Eq Nat (B + 0) (B + 4) => by omega)⟩, nofun⟩ (fun h : @Eq Nat (B + 3) (B + 4) => by omega) nofun ⟨h1, l1⟩ (fun h h' st k => ⟨st.1.at fun o g => k _ o (.inl rfl) g, st.2.at fun o g => k _ o (.inr (not_moves (b := so1) (z := B + 4) (TO := B + 3) (its := [B + 0]) (fun h : @Eq Nat (so1) (B + 4) => by omega) (fun h : @Eq Nat (so1) (B + 3) => by omega) (by simp only [List.forall_mem_cons]; exact ⟨(fun h : @Eq Nat (so1) (B + 0) => by omega), nofun⟩))) g⟩) (fun E' s' Q' st q => ZS.next_end (z := (⟨t1, B + 0, so1⟩ : ZS)) (A := A.in1) (E := E') (s := s') (Q := Q') hh st.1 st.2 end_ q) fun h' tk x k => fin h' tk x fun c o n0 n1 n2 n3 g => k c o (not_moves n0 n1 (by simp only [List.map_cons, List.map_nil, ZS.sr, List.forall_mem_cons]; exact ⟨n2, nofun⟩)) g)
  have go2 : (∃ x, y1[i]? = some x) → y2[i]? = none → wpAny (model prog w) A (pyNext (.ref (B + 4))) Q E s := by
    intro ⟨x1, e1⟩ end_
    refine zip_told hz (zip_ends (A := A.in1) (z := B + 4) (TI := B + 2) (TO := B + 3) (e := B + 1) (rs := [ZS.sr (⟨t1, B + 0, so1⟩ : ZS) i y1 x1]) (more := []) (old := [a1, a2]) (Ste := fun h => ZS.At (⟨t2, B + 1, so2⟩ : ZS) h i ∧ ZS.Src (⟨t2, B + 1, so2⟩ : ZS) h y2) hz hTI hTO (show 1 < 2 by decide) (show 2 ≤ 8 by decide) (by simp only [List.forall_mem_cons]; exact ⟨ZS.sr_ok (z := (⟨t1, B + 0, so1⟩ : ZS)) e1 (fun h : @Eq Nat (so1) (B + 0) => by omega) (not_moves (b := so1) (z := B + 4) (TO := B + 3) (its := [B + 1, B + 0]) (fun h : @Eq Nat (so1) (B + 4) => by omega) (fun h : @Eq Nat (so1) (B + 3) => by omega) (by simp only [List.forall_mem_cons]; exact ⟨(fun h : @Eq Nat (so1) (B + 1) => by omega), (fun h : @Eq Nat (so1) (B + 0) => by omega), nofun⟩)), nofun⟩) (List.Pairwise.cons (by simp only [List.map_cons, List.map_nil, ZS.sr, List.forall_mem_cons]; exact ⟨(fun h : @Eq Nat (B + 1) (B + 0) => by omega), nofun⟩) (List.Pairwise.cons nofun List.Pairwise.nil)) ⟨⟨(fun h : @Eq Nat (B + 1) (B + 3) => by omega), (fun h : @Eq Nat (B + 1) (B + 4) => by omega)⟩, (by simp only [List.map_cons, List.map_nil, ZS.sr, List.forall_mem_cons]; exact ⟨⟨(fun h : @Eq Nat (B + 0) (B + 3) => by omega), (fun h : @Eq Nat (B + 0) (B + 4) => by omega)⟩, nofun⟩)⟩ (fun h : @Eq Nat (B + 3) (B + 4) => by omega) (by simp only [List.map_cons, List.map_nil, ZS.sr, List.forall_mem_cons]; exact ⟨⟨h1, l1⟩, nofun⟩) ⟨h2, l2⟩ (fun h h' st k => ⟨st.1.at fun o g => k _ o (.inl rfl) g, st.2.at fun o g => k _ o (.inr (not_moves (b := so2) (z := B + 4) (TO := B + 3) (its := [B + 1, B + 0]) (fun h : @Eq Nat (so2) (B + 4) => by omega) (fun h : @Eq Nat (so2) (B + 3) => by omega) (by simp only [List.forall_mem_cons]; exact ⟨(fun h : @Eq Nat (so2) (B + 1) => by omega), (fun h : @Eq Nat (so2) (B + 0) => by omega), nofun⟩))) g⟩) (fun E' s' Q' st q => ZS.next_end (z := (⟨t2, B + 1, so2⟩ : ZS)) (A := A.in1) (E := E') (s := s') (Q := Q') hh st.1 st.2 end_ q) fun h' tk x k => fin h' tk x fun c o n0 n1 n2 n3 g => k c o (not_moves n0 n1 (by simp only [List.map_cons, List.map_nil, ZS.sr, List.forall_mem_cons]; exact ⟨n3, n2, nofun⟩)) g)
  cases e1 : y1[i]? with
  | none => exact go1  e1
  | some x1 =>
    cases e2 : y2[i]? with
    | none => exact go2 ⟨_, e1⟩ e2
    | some x2 =>
      exfalso; simp_all
structure Apart3 (B : Nat) (z1 : ZS) (z2 : ZS) (z3 : ZS) : Prop where
  i1 : B + 0 = z1.it
  l1 : z1.l < B
  i2 : B + 1 = z2.it
  l2 : z2.l < B
  i3 : B + 2 = z3.it
  l3 : z3.l < B
end
end L2

namespace L2
open PySem PySem.Spec PyProof.Rows


def SqB (K : PySem.W.Frag) (t : Bool) (H : Hp) (a : Addr) (xs : List V) : Prop := match t with
  | true => SqT K H a xs
  | false => SqL K H a xs
theorem Inv.sqb {X : Cx} {pins : List (Addr × Obj)} {σ : St} {H : Hp} {s : Shared} {a : Addr} {xs : List V} {t : Bool} (I : Inv X pins σ H s) (h : SqB X.K t H a xs) : ∃ its : List Value, Vals xs its ∧ ∀ i, ZS.Src ⟨t, i, a⟩ s.heap its.toArray := by
  cases t with
  | true => obtain ⟨its, r, p, _⟩ := I.tuple h; exact ⟨its, r, fun _ => p⟩
  | false => obtain ⟨its, r, p, _⟩ := I.list h; exact ⟨its, r, fun _ => p.isList⟩
theorem Inv.sqb_inj {X : Cx} {pins : List (Addr × Obj)} {σ : St} {H : Hp} {s : Shared} {a : Addr} {xs ys : List V} {t : Bool} (I : Inv X pins σ H s) (h : SqB X.K t H a xs) (h' : SqB X.K t H a ys) : xs = ys := by
  cases t with
  | true => exact I.tuple_inj h h'
  | false => exact I.list_inj h h'
theorem ZS.Src.lt {z : ZS} {h : Heap} {xs : Array Value} (x : z.Src h xs) : z.l < h.objs.size := by
  obtain ⟨t, i, l⟩ := z
  cases t with
  | true => obtain ⟨o, e, r⟩ := x; exact Heap.lt_size e
  | false => obtain ⟨o, e, r⟩ := x; exact Heap.lt_size e
def ZS.obj (t : Bool) (r : Addr) : Obj := { cls := .type (if t = true then "tuple_iterator" else "list_iterator"), data := .fields #[.ref r, .int 0 0] }
theorem ZS.obj_live (t : Bool) (r : Addr) : (ZS.obj t r).isFreed = false := rfl
theorem ZS.at_obj {t : Bool} {h : Heap} {i r : Addr} (e : h.get? i = some (ZS.obj t r)) : ZS.At ⟨t, i, r⟩ h 0 := by
  cases t with
  | true => exact ⟨_, e, rfl, rfl⟩
  | false => exact ⟨_, e, rfl, rfl⟩
theorem vals_cons {x : V} {xs : List V} {us : List Value} (r : Vals (x :: xs) us) : ∃ u ws, us = u :: ws ∧ RelV x u ∧ Vals xs ws := by
  cases r with
  | cons a b => exact ⟨_, _, rfl, a, b⟩
section
variable {prog : Program} {w : World} {A : Around} {E : Value → Shared → Prop} {s : Shared}
theorem ZS.iter {t : Bool} {i r : Addr} {xs : Array Value} {Q : Value → Shared → Prop} (h : ZS.Src ⟨t, i, r⟩ s.heap xs) (hQ : Q (.ref s.heap.objs.size) { s with heap := s.heap.push (ZS.obj t r) }) : wpAny (model prog w) A (pyIter (.ref r)) Q E s := by
  cases t with
  | true => exact wpAny_pyIter_tuple h hQ
  | false => exact wpAny_pyIter_list h hQ
theorem zcall2 (a1 a2 : Value) : checkTypeCall "zip" ⟨[a1, a2], []⟩ = pure () := by kernel_rfl
theorem znew2 (a1 a2 : Value) : checkBuiltinCall "zip.__new__" ⟨[.type "zip", a1, a2], []⟩ = pure () := by kernel_rfl
theorem zinit2 (o a1 a2 : Value) : argsOk "object.__init__" ⟨[o, a1, a2], []⟩ := by
  unfold argsOk; rw [signature?_of (id := "object.__init__") (n := ['_', '_', 't', 'i', 'n', 'i', '_', '_']) (o := ['t', 'c', 'e', 'j', 'b', 'o']) (by kernel_rfl) F.owner_object]; kernel_rfl
abbrev zh2_0 (h : Heap) (t1 t2 : Bool) (r1 r2 : Addr) : Heap := h
abbrev zh2_1 (h : Heap) (t1 t2 : Bool) (r1 r2 : Addr) : Heap := (zh2_0 h t1 t2 r1 r2).push (ZS.obj t1 r1)
abbrev zh2_2 (h : Heap) (t1 t2 : Bool) (r1 r2 : Addr) : Heap := (zh2_1 h t1 t2 r1 r2).push (ZS.obj t2 r2)
abbrev zh2_3 (h : Heap) (t1 t2 : Bool) (r1 r2 : Addr) : Heap := (zh2_2 h t1 t2 r1 r2).push { cls := .type "tuple", data := .seq #[.ref (zh2_0 h t1 t2 r1 r2).objs.size, .ref (zh2_1 h t1 t2 r1 r2).objs.size] }
abbrev zh2_4 (h : Heap) (t1 t2 : Bool) (r1 r2 : Addr) : Heap := (zh2_3 h t1 t2 r1 r2).push { cls := .type "tuple", data := .seq #[.none, .none] }
abbrev zh2_5 (h : Heap) (t1 t2 : Bool) (r1 r2 : Addr) : Heap := (zh2_4 h t1 t2 r1 r2).push { cls := .type "zip", data := .fields #[.none, .bool false, .bool false, .ref (zh2_2 h t1 t2 r1 r2).objs.size, .ref (zh2_3 h t1 t2 r1 r2).objs.size] }
theorem zmeet2 (t1 t2 : Bool) (r1 r2 : Addr) (y1 y2 : Array Value) :
    Meets (Builtin.«zip.__new__» ⟨[.type "zip", .ref r1, .ref r2], []⟩) (fun _ R s => ZS.Src ⟨t1, 0, r1⟩ s.heap y1 ∧ ZS.Src ⟨t2, 0, r2⟩ s.heap y2 ∧ R (.ok (.ret (.ref (zh2_4 s.heap t1 t2 r1 r2).objs.size))) { s with heap := (zh2_5 s.heap t1 t2 r1 r2) }) :=
  .of_wp fun prog w A R s h => by
    obtain ⟨hp, g, d, tk, os⟩ := s; obtain ⟨l1, l2, h⟩ := h
    have hsub := sub_zip
    have m1 : ZS.Src ⟨t1, 0, r1⟩ (Shared.heap ⟨(zh2_0 hp t1 t2 r1 r2), g, d, tk, os⟩) y1 := ZS.Src.at l1 fun o e => e
    have m2 : ZS.Src ⟨t2, 0, r2⟩ (Shared.heap ⟨(zh2_1 hp t1 t2 r1 r2), g, d, tk, os⟩) y2 := ZS.Src.at l2 fun o e => Heap.get?_push_of_some _ (e)
    wp_walk using ZS.iter m1, ZS.iter m2
    exact ⟨_, rfl, h⟩
theorem zip2_new {t1 t2 : Bool} {r1 r2 : Addr} {y1 y2 : Array Value} {Q : Value → Shared → Prop} (l1 : ZS.Src ⟨t1, 0, r1⟩ s.heap y1) (l2 : ZS.Src ⟨t2, 0, r2⟩ s.heap y2)
    (h : ∀ h', Zn2 s.heap.objs.size ⟨t1, s.heap.objs.size + 0, r1⟩ ⟨t2, s.heap.objs.size + 1, r2⟩ 0 h' → (∀ c o, s.heap.get? c = some o → h'.get? c = some o) → Q (.ref (s.heap.objs.size + 4)) { s with heap := h' }) :
    wpAny (model prog w) A (call (.type "zip") [.ref r1, .ref r2]) Q E s := by
  refine callType_new F.called_zip (by decide) (zcall2 _ _) (znew2 _ _) (fun obj => zinit2 obj _ _) F.entry_zip_new (zmeet2 t1 t2 r1 r2 y1 y2) ⟨l1, l2, ?_⟩
  have s0 : (zh2_0 s.heap t1 t2 r1 r2).objs.size = s.heap.objs.size + 0 := rfl
  have s1 : (zh2_1 s.heap t1 t2 r1 r2).objs.size = s.heap.objs.size + 1 := by rw [Heap.size_push, s0]
  have s2 : (zh2_2 s.heap t1 t2 r1 r2).objs.size = s.heap.objs.size + 2 := by rw [Heap.size_push, s1]
  have s3 : (zh2_3 s.heap t1 t2 r1 r2).objs.size = s.heap.objs.size + 3 := by rw [Heap.size_push, s2]
  have s4 : (zh2_4 s.heap t1 t2 r1 r2).objs.size = s.heap.objs.size + 4 := by rw [Heap.size_push, s3]
  have s5 : (zh2_5 s.heap t1 t2 r1 r2).objs.size = s.heap.objs.size + 5 := by rw [Heap.size_push, s4]
  have g0 : (zh2_5 s.heap t1 t2 r1 r2).get? (zh2_0 s.heap t1 t2 r1 r2).objs.size = some _ := Heap.get?_push_of_some _ (Heap.get?_push_of_some _ (Heap.get?_push_of_some _ (Heap.get?_push_of_some _ (Heap.get?_push_size _ (ZS.obj_live _ _)))))
  have g1 : (zh2_5 s.heap t1 t2 r1 r2).get? (zh2_1 s.heap t1 t2 r1 r2).objs.size = some _ := Heap.get?_push_of_some _ (Heap.get?_push_of_some _ (Heap.get?_push_of_some _ (Heap.get?_push_size _ (ZS.obj_live _ _))))
  have g2 : (zh2_5 s.heap t1 t2 r1 r2).get? (zh2_2 s.heap t1 t2 r1 r2).objs.size = some _ := Heap.get?_push_of_some _ (Heap.get?_push_of_some _ (Heap.get?_push_size _ rfl))
  have g3 : (zh2_5 s.heap t1 t2 r1 r2).get? (zh2_3 s.heap t1 t2 r1 r2).objs.size = some _ := Heap.get?_push_of_some _ (Heap.get?_push_size _ rfl)
  have g4 : (zh2_5 s.heap t1 t2 r1 r2).get? (zh2_4 s.heap t1 t2 r1 r2).objs.size = some _ := Heap.get?_push_size _ rfl
  show _ ∧ _
  rw [s0] at g0
  rw [s1] at g1
  rw [s0, s1, s2] at g2
  rw [s3] at g3
  rw [s2, s3, s4] at g4
  rw [s4]
  exact ⟨⟨_, g4, rfl⟩, h _ ⟨g4, g2, ⟨_, _, g3⟩, ZS.at_obj g0, ZS.at_obj g1⟩ fun c o x => Heap.get?_push_of_some _ (Heap.get?_push_of_some _ (Heap.get?_push_of_some _ (Heap.get?_push_of_some _ (Heap.get?_push_of_some _ (x)))))⟩

def Itz2 (K : PySem.W.Frag) (t1 t2 : Bool) (r1 r2 : Addr) : It :=
  ⟨fun i H => ∃ (y1 y2 : List V) (x1 x2 : V), SqB K t1 H r1 y1 ∧ SqB K t2 H r2 y2 ∧ y1[i]? = some x1 ∧ y2[i]? = some x2,
    fun i H v H' => ∃ T x1 x2, v = .ref T ∧ H T = none ∧ H' = upd H T (.tup [x1, x2]) ∧ (∀ ys, SqB K t1 H r1 ys → ys[i]? = some x1) ∧ (∀ ys, SqB K t2 H r2 ys → ys[i]? = some x2),
    fun i H => ∃ y1 y2 : List V, SqB K t1 H r1 y1 ∧ SqB K t2 H r2 y2 ∧ (y1.length ≤ i ∨ y2.length ≤ i)⟩
theorem turn_zip2 {P : Program} {w : World} {K : PySem.W.Frag} {elts : List Expr} {kk : Nat} {tpos : Pos} {t1 t2 : Bool} {r1 r2 : Addr} {B : Nat} (k1 : r1 < B) (k2 : r2 < B) :
    Turn P w K (.Tuple elts kk tpos) (Itz2 K t1 t2 r1 r2) [(B + 4), (B + 2), (B + 3), B + 0, B + 1] (B + 4) (Zn2 B ⟨t1, B + 0, r1⟩ ⟨t2, B + 1, r2⟩) where
  mem := by simp
  obj := fun i h st c hc => by
    obtain ⟨hz, hTI, ⟨a1, a2, hTO⟩, h1, h2⟩ := st
    have e' : c = (B + 4) ∨ c = (B + 2) ∨ c = (B + 3) ∨ c = B + 0 ∨ c = B + 1 := by simpa using hc
    rcases e' with q | q | q | q | q
    · rw [q]; exact ⟨_, hz, fun v q => nomatch q⟩
    · rw [q]; exact ⟨_, hTI, fun v q => nomatch q⟩
    · rw [q]; exact ⟨_, hTO, fun v q => nomatch q⟩
    · rw [q]; exact h1.obj
    · rw [q]; exact h2.obj
  keep := fun i h h' st k => by
    obtain ⟨hz, hTI, ⟨a1, a2, hTO⟩, h1, h2⟩ := st
    exact ⟨k _ (by simp) _ hz, k _ (by simp) _ hTI, ⟨a1, a2, k _ (by simp) _ hTO⟩, h1.at fun o q => k _ (by simp) o q, h2.at fun o q => k _ (by simp) o q⟩
  item := by
    intro X hP hw hK hc i pins s σ H E I hf st hg
    subst hP hw hK
    obtain ⟨hz, hTI, ⟨a1, a2, hTO⟩, h1, h2⟩ := st
    obtain ⟨y1, y2, x1, x2, q1, q2, e1, e2⟩ := hg
    obtain ⟨its1, rv1, p1⟩ := I.sqb q1
    obtain ⟨u1, hu1, ru1⟩ := rv1.get e1
    obtain ⟨its2, rv2, p2⟩ := I.sqb q2
    obtain ⟨u2, hu2, ru2⟩ := rv2.get e2
    have hzl : (B + 4) < s.heap.objs.size := Heap.lt_size hz
    refine zip2_next (D := ⟨rfl, k1, rfl, k2⟩) hz hTI hTO h1 (p1 _) h2 (p2 _) (by simpa using hu1) (by simpa using hu2) fun h' tk z' TO' n1 n2 hT hk => ?_
    refine ⟨_, rfl, wpAny_letOwnedTupleGo_zip (s := { s with heap := h', toks := tk }) z' fun h'' z'' sb => ?_⟩
    have hT2 : h''.get? s.heap.objs.size = some { cls := .type "tuple", data := .seq #[u1, u2] } := (sb.2 _ (Nat.ne_of_gt hzl)).trans hT
    have new : ObjOk X.prog X.w (upd H s.heap.objs.size (.tup [x1, x2])) h'' s.heap.objs.size (.tup [x1, x2]) :=
      ⟨by show 2 ≤ sizeLine; decide, [u1, u2], .cons ru1 (.cons ru2 .nil), ⟨_, hT2, rfl, _, rfl⟩⟩
    have I1 : Inv X pins σ (upd H s.heap.objs.size (.tup [x1, x2])) { s with heap := h'', toks := tk } :=
      I.turnedNew (t' := tk) (ch := [(B + 4), (B + 2), (B + 3), B + 0, B + 1]) (fun c o hb q => (sb.2 c (fun q' => hb (by simp [q']))).trans (hk c o (fun q' => hb (by simp [q'])) (fun q' => hb (by simp [q'])) (fun q' => hb (by simp [q'])) (fun q' => hb (by simp [q'])) q)) hf (Nat.le_refl _) new
    refine ⟨.ref s.heap.objs.size, _, I1, rfl, ⟨_, x1, x2, rfl, I.hok.fresh (Nat.le_refl _), rfl, fun l hl => by rw [I.sqb_inj hl q1]; exact e1, fun l hl => by rw [I.sqb_inj hl q2]; exact e2⟩, ⟨z'', ?_, ⟨u1, u2, (sb.2 _ (show ((B + 3) : Nat) ≠ (B + 4) by omega)).trans TO'⟩, n1.at fun o q => (sb.2 _ (show (B + 0 : Nat) ≠ (B + 4) by omega)).trans q, n2.at fun o q => (sb.2 _ (show (B + 1 : Nat) ≠ (B + 4) by omega)).trans q⟩, fun c hcm => ?_⟩
    · exact (sb.2 _ (show ((B + 2) : Nat) ≠ (B + 4) by omega)).trans (hk _ _ (show ((B + 2) : Nat) ≠ (B + 4) by omega) (show ((B + 2) : Nat) ≠ (B + 3) by omega) (show ((B + 2) : Nat) ≠ B + 0 by omega) (show ((B + 2) : Nat) ≠ B + 1 by omega) hTI)
    · have hlt : c < s.heap.objs.size := by
        have e' : c = (B + 4) ∨ c = (B + 2) ∨ c = (B + 3) ∨ c = B + 0 ∨ c = B + 1 := by simpa using hcm
        have hzl' : (B + 4 : Nat) < s.heap.objs.size := hzl
        rcases e' with q | q | q | q | q
        · rw [q]; show ((B + 4) : Nat) < s.heap.objs.size; omega
        · rw [q]; show ((B + 2) : Nat) < s.heap.objs.size; omega
        · rw [q]; show ((B + 3) : Nat) < s.heap.objs.size; omega
        · rw [q]; show (B + 0 : Nat) < s.heap.objs.size; omega
        · rw [q]; show (B + 1 : Nat) < s.heap.objs.size; omega
      rw [upd_ne (Nat.ne_of_lt hlt)]
      exact (hf c hcm).1
  done := by
    intro X hP hw hK hc i pins s σ H E I hf st hg
    subst hP hw hK
    obtain ⟨hz, hTI, ⟨a1, a2, hTO⟩, h1, h2⟩ := st
    obtain ⟨y1, y2, q1, q2, hend⟩ := hg
    obtain ⟨its1, rv1, p1⟩ := I.sqb q1
    have ll1 := rv1.length
    obtain ⟨its2, rv2, p2⟩ := I.sqb q2
    have ll2 := rv2.length
    have he : its1.toArray[i]? = none ∨ its2.toArray[i]? = none := by
      rcases hend with q | q
      · exact .inl (by simp; omega)
      · exact .inr (by simp; omega)
    exact zip2_stop (I.ok.hd hc) (D := ⟨rfl, k1, rfl, k2⟩) hz hTI hTO h1 (p1 _) h2 (p2 _) he fun h' tk hk => ⟨rfl, I.turnedL (t' := tk) (ch := [(B + 4), (B + 2), (B + 3), B + 0, B + 1]) (fun c o hb q =>
      hk c o (fun q' => hb (by simp [q'])) (fun q' => hb (by simp [q'])) (fun q' => hb (by simp [q'])) (fun q' => hb (by simp [q'])) q) hf⟩
  self := fun A i s Q E st h => wpAny_pyIter_zip st.1 h
def iZip2 (K : PySem.W.Frag) (ta : TA) : TI := fun σ H R => ta σ H fun vs H1 => ∃ t1 t2 r1 r2 y1 y2, vs = [.ref r1, .ref r2] ∧ SqB K t1 H1 r1 y1 ∧ SqB K t2 H1 r2 y2 ∧ R (Itz2 K t1 t2 r1 r2) H1
theorem pi_zip2 {X : Cx} {e1 e2 : Expr} {ta : TA} {p pos tpos : Pos} {elts : List Expr} {kk : Nat} (hg : Gl X "zip") (hm : X.mg "zip" = none) (ha : PA X [e1, e2] ta)
    (hs : starEach [e1, e2] X.env = (false, eval e1 X.env) :: starEach [e2] X.env := by rfl) (hpl : (backTo pos (starEach [e2] X.env)).any (·.1) = false := by rfl) :
    PI X (.Tuple elts kk tpos) (.Call (.Name "zip" p) [e1, e2] [] pos) (iZip2 X.K ta) := by
  intro pins s σ H R I h
  refine Call_ (ld_blt I hg hm boot_zip5 (PyProof.Rows.callWith_type1 (thn (ha pos pins s σ H _ I h) fun us s1 ⟨vs, H1, I1, rr, q1⟩ => ?_) hs hpl))
  obtain ⟨t1, t2, r1, r2, y1, y2, ex, q1, q2, q⟩ := q1
  subst ex
  obtain ⟨v1, w1, rfl, rl1, rr1⟩ := vals_cons rr
  cases rl1
  obtain ⟨v2, w2, rfl, rl2, rr2⟩ := vals_cons rr1
  cases rl2
  cases rr2
  obtain ⟨its1, rv1, p1⟩ := I1.sqb q1
  have la1 : r1 < s1.heap.objs.size := (p1 0).lt
  obtain ⟨its2, rv2, p2⟩ := I1.sqb q2
  have la2 : r2 < s1.heap.objs.size := (p2 0).lt
  refine zip2_new (p1 0) (p2 0) fun h' hZ hk => wpAny_pyIter_zip hZ.1 ?_
  have I2 : Inv X pins σ H1 { s1 with heap := h' } := I1.kept (t' := s1.toks) hk
  refine ⟨s1.heap.objs.size + 4, [s1.heap.objs.size + 4, s1.heap.objs.size + 2, s1.heap.objs.size + 3, s1.heap.objs.size + 0, s1.heap.objs.size + 1], _, _, H1, rfl, I2, turn_zip2 la1 la2, hZ, fun c hcm => ?_, q⟩
  have hle : s1.heap.objs.size ≤ c := by
    have e' : c = s1.heap.objs.size + 4 ∨ c = s1.heap.objs.size + 2 ∨ c = s1.heap.objs.size + 3 ∨ c = s1.heap.objs.size + 0 ∨ c = s1.heap.objs.size + 1 := by simpa using hcm
    rcases e' with z | z | z | z | z <;> rw [z] <;> exact Nat.le_add_right _ _
  exact I1.fpOk hle (I1.hok.fresh hle)
end
end L2

namespace L2
open PySem PySem.Spec PyProof.Rows


def cutK (K : PySem.W.Frag) (Ps : List Addr) : PySem.W.Frag := K.filter fun p => !Ps.contains p.1
theorem cutK_lookup {Ps : List Addr} {b : Addr} (hb : b ∉ Ps) : ∀ K : PySem.W.Frag, (cutK K Ps).lookup b = K.lookup b
  | [] => rfl
  | (a, o) :: r => by
    have ih := cutK_lookup hb r
    unfold cutK at ih ⊢
    rw [List.filter_cons]
    by_cases ha : (!Ps.contains a) = true
    · rw [if_pos ha, List.lookup_cons, List.lookup_cons, ih]
    · rw [if_neg ha, ih, List.lookup_cons]
      have hm : a ∈ Ps := by simpa using ha
      have : (b == a) = false := by
        rw [beq_eq_false_iff_ne]
        exact fun e => hb (e ▸ hm)
      rw [this]
theorem cutK_of {Ps : List Addr} {b : Addr} {o : Obj} : ∀ {K : PySem.W.Frag}, (cutK K Ps).lookup b = some o → b ∉ Ps ∧ K.lookup b = some o := by
  intro K h
  have hb : b ∉ Ps := fun hb => by
    have : ∀ K : PySem.W.Frag, (cutK K Ps).lookup b = none := by
      intro K
      induction K with
      | nil => rfl
      | cons p r ih =>
        obtain ⟨a, o⟩ := p
        unfold cutK at ih ⊢
        rw [List.filter_cons]
        by_cases ha : (!Ps.contains a) = true
        · rw [if_pos ha, List.lookup_cons]
          have : (b == a) = false := by
            rw [beq_eq_false_iff_ne]
            intro e
            subst e
            simp [hb] at ha
          rw [this]
          exact ih
        · rw [if_neg ha]; exact ih
    rw [this K] at h; cases h
  exact ⟨hb, by rw [← cutK_lookup hb]; exact h⟩

def kx (K : PySem.W.Frag) (Ps : List Addr) (bm : Addr) (ob : Obj) : PySem.W.Frag := cutK K Ps ++ [(bm, ob)]
theorem kx_some {K : PySem.W.Frag} {Ps : List Addr} {bm b : Addr} {ob o : Obj} (hb : b ∉ Ps) (h : K.lookup b = some o) : (kx K Ps bm ob).lookup b = some o := by
  unfold kx
  rw [List.lookup_append, cutK_lookup hb, h]
  rfl
theorem kx_of {K : PySem.W.Frag} {Ps : List Addr} {bm b : Addr} {ob o : Obj} (h : (kx K Ps bm ob).lookup b = some o) : (b ∉ Ps ∧ K.lookup b = some o) ∨ (b = bm ∧ o = ob) := by
  unfold kx at h
  rw [List.lookup_append] at h
  cases e : (cutK K Ps).lookup b with
  | some u =>
    rw [e] at h
    cases h
    exact .inl (cutK_of e)
  | none =>
    rw [e] at h
    have h : List.lookup b [(bm, ob)] = some o := h
    rw [List.lookup_cons] at h
    by_cases hb : (b == bm) = true
    · rw [hb] at h
      exact .inr ⟨by simpa using hb, (Option.some.inj h).symm⟩
    · rw [Bool.not_eq_true] at hb
      rw [hb] at h
      cases h


structure FunC (K : PySem.W.Frag) (x qual : Str) (st : Stmt) (f : Addr) (fd : FuncData) (cdv : Value) : Prop where
  ex : ∃ (oc : Value) (od : Option Addr) (kV doc pm : Value) (an : Option Addr) (ct : Value) (osl : Array (Option Value)),
    fd = PySem.W.fnOf x qual (defArgs st) (defBody st) (defScope st) .none kV doc pm an cdv ct ∧ K.lookup f = some ⟨oc, od, .func fd, osl⟩ ∧ PySem.W.codeIn K cdv qual = true
  kp : PySem.W.keepIn K (.ref f) = true
section
variable {P : Program} {w : World} {K : PySem.W.Frag} {mg : Str → Option Value} {base : Heap}
theorem FunC.ok {x qual : Str} {st : Stmt} {f : Addr} {fd : FuncData} {cdv : Value} {N ps : List Str} {k : Nat} {sp : Sp} (F : FunC K x qual st f fd cdv) (S : FnScope N ps (defScope st)) (len : ∀ vs H Q E, sp vs H Q E → vs.length = ps.length)
    (hbody : ∀ (A : Around) (outer : List Env) (s : Shared) (H : Hp) (vs : List V) (Q : VK) (E : XK), Room k (A.deeper (envOfC qual (defScope st) s.heap.objs.size f cdv)) → sp vs H Q E →
      ∃ t, PSs (cxOf CX0 P w K mg base N qual (defScope st) f cdv A outer s H E).nox (defBody st) t ∧ t { nx := fun _ H' => Q .non H', rt := Q } (start N vs) H) : FnOk P w K mg base CX0 (k + 1) f fd ps sp := by
  obtain ⟨oc, od, kV, doc, pm, an, ct, osl, rfl, lk, hcd⟩ := F.ex
  refine fn_of lk hcd S len fun A outer s H vs Q E hr hsp => ?_
  obtain ⟨t, h, q⟩ := hbody A outer s H vs Q E hr hsp
  exact ⟨t, h.nox, q⟩
theorem FunC.binds {x qual : Str} {st : Stmt} {f : Addr} {fd : FuncData} {cdv : Value} {ps : List Str} (F : FunC K x qual st f fd cdv)
    (h : ∀ (kV doc pm : Value) (an : Option Addr) (cdv ct : Value) (us : List Value), us.length = ps.length → bindArgs (PySem.W.fnOf x qual (defArgs st) (defBody st) (defScope st) .none kV doc pm an cdv ct) ⟨us, []⟩ = pure (ps.zip us)) : Binds K fd ps [] := by
  obtain ⟨oc, od, kV, doc, pm, an, ct, osl, rfl, lk, hcd⟩ := F.ex
  exact .all (h kV doc pm an cdv ct)

theorem funC_mk {Ps : List Addr} {bm : Addr} {ob : Obj} {x qual : Str} {st : Stmt} {f c : Addr} {oc : Value} {od an : Option Addr} {osl : Array (Option Value)} {kV doc pm ct : Value} (hf : f ∉ Ps) (hc : c ∉ Ps) (l : K.lookup f = some ⟨oc, od, .func (PySem.W.fnOf x qual (defArgs st) (defBody st) (defScope st) .none kV doc pm an (.ref c) ct), osl⟩)
    (hcd : PySem.W.codeIn K (.ref c) qual = true) : FunC (kx K Ps bm ob) x qual st f (PySem.W.fnOf x qual (defArgs st) (defBody st) (defScope st) .none kV doc pm an (.ref c) ct) (.ref c) := by
  have l' : (kx K Ps bm ob).lookup f = _ := kx_some hf l
  refine ⟨⟨oc, od, kV, doc, pm, an, ct, osl, rfl, l', ?_⟩, ?_⟩
  · unfold PySem.W.codeIn at hcd ⊢
    dsimp only at hcd ⊢
    cases e : K.lookup c with
    | none => rw [e] at hcd; cases hcd
    | some u => rw [kx_some hc e]; rw [e] at hcd; exact hcd
  · unfold PySem.W.keepIn
    dsimp only
    rw [l']
theorem codeK_mk {Ps : List Addr} {bm : Addr} {ob : Obj} {c P : Addr} {o : Obj} {vs : Array Value} {file : Str} {tf : Tok} {flags : Int} {tg : Tok} {inF : Bool} {text : Int} {tt : Tok} (hc : c ∉ Ps) (hP : P ∈ Ps) (l : K.lookup c = some o) (h1 : o.cls = .type "code") (h2 : o.data = .fields vs) (h3 : vs[11]? = some (.ref P))
    (h4 : vs.getD 18 .none = .str file tf) (h5 : vs.getD 7 .none = .int flags tg) (h6 : vs.getD 9 .none = .bool inF) (h7 : vs.getD 10 .none = .int text tt) : CodeK (kx K Ps bm ob) (.ref c) c P :=
  ⟨rfl, ⟨o, vs, file, tf, flags, tg, inF, text, tt, kx_some hc l, h1, h2, h3, h4, h5, h6, h7⟩, fun e => hc (e ▸ hP)⟩
theorem bmK_mk {Ps : List Addr} {bm : Addr} {ob : Obj} {h : Heap} (X : K.In h) (a : mg "__builtins__" = some (.ref bm)) (ne : bm ≠ builtinsNs) (l : h.get? bm = some ob) (h1 : ob.cls = .type "module") (h2 : ob.dict = some builtinsNs) (h3 : ob.data = .plain) :
    BmK (kx K Ps bm ob) mg := by
  refine ⟨bm, ob, a, ne, ?_, h1, h2, h3⟩
  cases e : (kx K Ps bm ob).lookup bm with
  | none =>
    exfalso
    unfold kx at e
    rw [List.lookup_append] at e
    cases e2 : (cutK K Ps).lookup bm with
    | some u => rw [e2] at e; cases e
    | none =>
      rw [e2] at e
      have e : List.lookup bm [(bm, ob)] = none := e
      simp [List.lookup] at e
  | some u =>
    rcases kx_of e with ⟨_, z⟩ | ⟨_, z⟩
    · rw [← X _ _ z, l]
    · rw [z]
end


def TabAt (mg : Str → Option Value) (h : Heap) (name : Str) : Prop := ∃ a o fd c P, mg name = some (.ref a) ∧ h.get? a = some o ∧ o.data = .func fd ∧ fd.code = .ref c ∧ h.IsCode c P #[] ∧ h.TableAt c P #[]

structure TopX (q : Program) (mg : Str → Option Value) (h : Heap) : Prop where
  g : h.Ns mainGlobals mg
  tab : ∀ d ∈ recsOf q, TabAt mg h d.name
  bm : ∃ bm ob, mg "__builtins__" = some (.ref bm) ∧ bm ≠ builtinsNs ∧ h.get? bm = some ob ∧ ob.cls = .type "module" ∧ ob.dict = some builtinsNs ∧ ob.data = .plain
theorem TopX.at {q : Program} {mg : Str → Option Value} {h : Heap} {name : Str} (X : TopX q mg h) (hn : ((recsOf q).any fun d => d.name == name) = true) : TabAt mg h name := by
  obtain ⟨d, hd, e⟩ := List.any_eq_true.mp hn
  have := X.tab d hd
  rwa [beq_iff_eq.mp e] at this

structure TabK (h : Heap) (P : Addr) (ps : Array Value) : Prop where
  ob : h.get? P = some { cls := .none, data := .fields ps }
  tr : TriplesOk ps.toList
  co : ∃ (c : Addr) (o : Obj) (vs : Array Value), h.get? c = some o ∧ o.cls = .type "code" ∧ o.data = .fields vs ∧ vs[11]? = some (.ref P)
theorem tabK_mk {K : PySem.W.Frag} {mg : Str → Option Value} {h : Heap} {name : Str} {f c P : Addr} {oc : Value} {od oo : Option Addr} {osl os : Array (Option Value)} {fd : FuncData} {vs : Array Value} (X : K.In h) (tb : TabAt mg h name) (hm : mg name = some (.ref f)) (l : K.lookup f = some ⟨oc, od, .func fd, osl⟩) (hc : fd.code = .ref c)
    (o : K.lookup c = some ⟨.type "code", oo, .fields vs, os⟩) (p : vs[11]? = some (.ref P)) : TabK h P #[] := by
  obtain ⟨a, oa, fda, ca, Pa, h1, h2, h3, h4, h5, h6⟩ := tb
  rw [hm] at h1; cases h1
  rw [X _ _ l] at h2; cases h2
  have h3 : Data.func fd = Data.func fda := h3
  cases h3
  rw [hc] at h4; cases h4
  obtain ⟨⟨ob, vb, b1, b2, b3, b4⟩, b5⟩ := h6
  rw [X _ _ o] at b1; cases b1
  have b3 : Data.fields vs = Data.fields vb := b3
  cases b3
  rw [p] at b4; cases b4
  exact ⟨b5, trivial, c, _, vs, X _ _ o, rfl, rfl, p⟩
abbrev Tables (Ts : List (Addr × Array Value)) (H : Hp) : Prop := ∀ t ∈ Ts, H t.1 = some (Tb t.1 t.2)

def startH (Ts : List (Addr × Array Value)) (o : Option (Addr × HO)) : Hp := fun b => match Ts.find? (fun t => t.1 == b) with
  | some t => some (Tb t.1 t.2)
  | none => match o with
    | some (a, u) => if b = a then some u else none
    | none => none

theorem find_of : ∀ {Ts : List (Addr × Array Value)} {t : Addr × Array Value}, (Ts.map (·.1)).Nodup → t ∈ Ts → Ts.find? (fun u => u.1 == t.1) = some t
  | [], _, _, ht => by cases ht
  | u :: r, t, hnd, ht => by
    rw [List.map_cons, List.nodup_cons] at hnd
    rw [List.find?_cons]
    by_cases hu : u.1 = t.1
    · rcases List.mem_cons.mp ht with e | hm
      · subst e; simp
      · exfalso
        exact hnd.1 (hu ▸ List.mem_map.mpr ⟨t, hm, rfl⟩)
    · have : (u.1 == t.1) = false := by simpa using hu
      rw [this]
      rcases List.mem_cons.mp ht with e | hm
      · subst e; exact absurd rfl hu
      · exact find_of hnd.2 hm
theorem law_callT {P : Program} {w : World} {K : PySem.W.Frag} {mg mb : Str → Option Value} {CX : CXT} {k : Nat} {fa a : Addr} {fd : FuncData} {x : Str} {sp : Sp} {s₁ : Shared} {vs : List Value} {ns : List Int} {Ts : List (Addr × Array Value)}
    (KX : ∀ b o, K.lookup b = some o → b ∉ Ts.map (·.1) ∧ s₁.heap.get? b = some o) (hns : s₁.heap.Ns mainGlobals mg) (hb : s₁.heap.Ns builtinsNs mb) (hbb : ∀ x : Str, x ≠ "__name__" → mb x = bootBuiltins x) (hlim : s₁.heap.NoLimit) (hg : s₁.gens = #[])
    (ha : s₁.heap.get? a = some { cls := .type "list", data := .seq vs.toArray }) (hi : IntsAre vs ns) (hl : ns.length ≤ sizeLine) (hr : Room k callerA) (hnd : (Ts.map (·.1)).Nodup) (hT : ∀ t ∈ Ts, TabK s₁.heap t.1 t.2)
    (F : ∀ base : Heap, K.In base → base.Ns mainGlobals mg → FnOk P w K mg base CX k fa fd [x] sp) (hbind : ∀ (s : Shared) (u : Value), BindsTo s fd ⟨[u], []⟩ [(x, u)])
    (hsp : ∀ H : Hp, Tables Ts H → SqL K H a (ns.map V.int) → sp [.ref a] H (fun v H' => v = .bl true ∧ Tables Ts H') fun _ _ _ => False)
    (hCX : ∀ H e s', CX [] H s₁ (fun _ _ _ => False) e s' → False) :
    codeAny (model P w) callerA (.call (.ref fa) ⟨[.ref a], []⟩) (fun r s' => r = .ok (.ret (.bool true)) ∧ OldK s₁.heap s'.heap ∧ s'.os = s₁.os ∧ AllBare s'.gens) s₁ := by
  have rv := vals_ints hi
  have lenV := hi.length
  have aT : a ∉ Ts.map (·.1) := fun z => by
    obtain ⟨t, ht, e⟩ := List.mem_map.mp z
    have := (hT t ht).ob
    rw [e, ha] at this
    cases this
  have tabs : ∀ o, Tables Ts (startH Ts o) := fun o t ht => by
    unfold startH
    have : Ts.find? (fun u => u.1 == t.1) = some t := find_of hnd ht
    rw [this]
  have offT : ∀ {o : Option (Addr × HO)} {b : Addr}, b ∉ Ts.map (·.1) → startH Ts o b = match o with | some (c, u) => if b = c then some u else none | none => none := fun {o b} hb => by
    unfold startH
    have : Ts.find? (fun t => t.1 == b) = none := by
      rw [List.find?_eq_none]
      intro t ht e
      exact hb (List.mem_map.mpr ⟨t, ht, by simpa using e⟩)
    rw [this]
  have core : ∀ H : Hp, Tables Ts H → SqL K H a (ns.map V.int) → HOk P w H s₁.heap → (∀ b u, H b = some u → b ∈ Ts.map (·.1) ∨ (b = a ∧ (∃ o xs, u = .frz o (.lst xs)) ∧ K.lookup a = none)) →
      codeAny (model P w) callerA (.call (.ref fa) ⟨[.ref a], []⟩) (fun r s' => r = .ok (.ret (.bool true)) ∧ OldK s₁.heap s'.heap ∧ s'.os = s₁.os ∧ AllBare s'.gens) s₁ := by
    intro H hTb hS hok hA
    have base_of : ∀ {b : Addr} {o : Obj}, s₁.heap.get? b = some o → H b = none → (hidT s₁.heap H).get? b = some o := fun e n => hidT_get e n
    have noA : ∀ {b : Addr} {o : Obj} {es : Array DictEntry} {ep : Nat}, s₁.heap.get? b = some o → o.data = .dict es ep → H b = none := fun {b o es ep} e d => by
      cases q : H b with
      | none => rfl
      | some u =>
        rcases hA b u q with z | ⟨z, _, _⟩
        · obtain ⟨t, ht, e'⟩ := List.mem_map.mp z
          have := (hT t ht).ob
          rw [e', e] at this
          cases this
          cases d
        · subst z
          rw [ha] at e; cases e
          cases d
    have nsK : ∀ {b : Addr} {m : Str → Option Value}, s₁.heap.Ns b m → (hidT s₁.heap H).Ns b m := fun {b m} ⟨o, es, ep, e, d, r⟩ => ⟨o, es, ep, base_of e (noA e d), d, r⟩
    have hKb : K.In (hidT s₁.heap H) := fun b o e => by
      obtain ⟨hbT, e1⟩ := KX b o e
      refine base_of e1 ?_
      cases q : H b with
      | none => rfl
      | some u =>
        rcases hA b u q with z | ⟨z, _, z'⟩
        · exact absurd z hbT
        · rw [z, z'] at e; cases e
    have hM : Mod K mg (hidT s₁.heap H) := ⟨hKb, nsK hns, ⟨mb, nsK hb, hbb⟩, let ⟨mc, h1, h2⟩ := hlim; ⟨mc, nsK h1, h2⟩⟩
    have e0 : Env0 P w K mg (hidT s₁.heap H) callerA [] s₁ H := ⟨rfl, hM, fun b o e => of_hidT e, Nat.le_of_eq (hidT_size _ _), trivial, fun b hb => absurd (show b ∈ ([] : List Addr) from hb) (by simp), hok, .of_eq hg⟩
    refine codeAny_mono ((F _ hKb (nsK hns)).run callerA [] s₁ H ⟨[.ref a], []⟩ [.ref a] [.ref a] _ _ hr e0 (hbind s₁ (.ref a)) (.cons rfl .nil) (hsp H hTb hS)) fun r s' h => ?_
    cases r with
    | error e => exact (hCX H e s' h).elim
    | ok fl =>
      cases fl with
      | next => exact False.elim h
      | brk => exact False.elim h
      | cont => exact False.elim h
      | ret u =>
        obtain ⟨v, H', os, bare, un, hok', r', q, hTb'⟩ := h
        subst q
        obtain rfl : u = Value.bool true := r'
        have key : ∀ b o, s₁.heap.get? b = some o → s'.heap.get? b = some o ∨ (isCodeTable s₁.heap b ∧ o.cls = .none ∧ ∃ vs more, o.data = .fields vs ∧ s'.heap.get? b = some { o with data := .fields (vs ++ more) }) := fun b o e => by
          cases q : H b with
          | none => exact .inl (un.keep b o e q (by intro z; exact absurd (show b ∈ ([] : List Addr) from z) (by simp)) (by simp))
          | some u =>
            rcases hA b u q with z | ⟨z, ⟨ob, xs, zu⟩, _⟩
            · obtain ⟨t, ht, e'⟩ := List.mem_map.mp z
              have hob := (hT t ht).ob
              subst e'
              rw [hob] at e; cases e
              obtain ⟨c, oc, vc, hc1, hc2, hc3, hc4⟩ := (hT t ht).co
              obtain ⟨⟨more, hm, _⟩, _, _⟩ := (show ObjOk P w H' s'.heap t.1 (.ext (TbOk t.1 t.2)) from hok' t.1 _ (hTb' t ht))
              exact .inr ⟨⟨c, oc, vc, hc1, hc2, hc3, hc4⟩, rfl, t.2, more, rfl, hm⟩
            · subst zu
              have z2 := un.frzs b ob _ q
              obtain ⟨e1, _⟩ := hok b _ q
              obtain ⟨e2, _⟩ := hok' b _ z2
              rw [e] at e1; cases e1
              exact .inl e2
        refine ⟨rfl, ⟨fun b o e => ?_, fun b o e => ?_⟩, os, bare⟩
        · rcases key b o e with z | z
          · exact .inl z
          · exact .inr (.inl z)
        · rcases key b o e with z | ⟨_, _, _, _, _, z⟩
          · exact ⟨o, z⟩
          · exact ⟨_, z⟩
  have okT : ∀ (o : Option (Addr × HO)) b, b ∈ Ts.map (·.1) → ∀ u, startH Ts o b = some u → ObjOk P w (startH Ts o) s₁.heap b u := fun o b hbT u e => by
    obtain ⟨t, ht, e'⟩ := List.mem_map.mp hbT
    subst e'
    rw [tabs o t ht] at e
    cases e
    have hob := (hT t ht).ob
    exact ⟨⟨#[], by simpa using hob, by simpa using (hT t ht).tr⟩, ⟨_, hob⟩, TbOk.stay⟩
  cases hk : K.lookup a with
  | some o =>
    have e := (KX a o hk).2
    rw [ha] at e
    cases e
    refine core (startH Ts none) (tabs _) (.inr ⟨_, vs.toArray, _, hk, rfl, rfl, rfl, by rw [List.size_toArray, lenV]; exact hl, by simpa using rv⟩) (fun b u z => ?_) (fun b u z => ?_)
    · by_cases hbT : b ∈ Ts.map (·.1)
      · exact okT _ b hbT u z
      · rw [offT hbT] at z; cases z
    · by_cases hbT : b ∈ Ts.map (·.1)
      · exact .inl hbT
      · rw [offT hbT] at z; cases z
  | none =>
    have sa : startH Ts (some (a, .frz { cls := .type "list", data := .seq vs.toArray } (.lst (ns.map V.int)))) a = some (.frz { cls := .type "list", data := .seq vs.toArray } (.lst (ns.map V.int))) := by
      rw [offT aT]; simp
    refine core (startH Ts (some (a, .frz { cls := .type "list", data := .seq vs.toArray } (.lst (ns.map V.int))))) (tabs _) (.inl (.inr ⟨{ cls := .type "list", data := .seq vs.toArray }, sa⟩)) (fun b u z => ?_) (fun b u z => ?_)
    · by_cases hbT : b ∈ Ts.map (·.1)
      · exact okT _ b hbT u z
      · rw [offT hbT] at z
        by_cases hba : b = a
        · subst hba
          simp only [if_true] at z
          cases z
          exact ⟨ha, by rw [List.length_map]; exact hl, vs, _, rv, ha⟩
        · simp only [if_neg hba] at z
          cases z
    · by_cases hbT : b ∈ Ts.map (·.1)
      · exact .inl hbT
      · rw [offT hbT] at z
        by_cases hba : b = a
        · subst hba
          simp only [if_true] at z
          cases z
          exact .inr ⟨rfl, ⟨_, _, rfl⟩, hk⟩
        · simp only [if_neg hba] at z
          cases z


theorem walk_ofT {l : PySem.W.OpenLaw} {n k : Nat} {q : Program} {loose : List Str} {XP : (Str → Option Value) → Heap → Prop} {YP : World → Heap → Prop} {d : DefRec} {K : Params → PySem.W.Frag} {sp : PySem.W.Frag → List (Addr × Array Value) → Sp} {x : Str}
    (hn : l.most = some n) (hn2 : n ≤ sizeLine) (hdf : d.params.defaults = []) (hr : Room k callerA)
    (hY : ∀ (w : World) (h : Heap), YP w h → (K w.params).In h)
    (F : ∀ (w : World) (mg : Str → Option Value) (fa : Addr) (h : Heap), (K w.params).In h → TopX q mg h → mg d.name = some (.ref fa) →
      ∃ (K' : PySem.W.Frag) (Ts : List (Addr × Array Value)) (fd : FuncData), (∀ b o, K'.lookup b = some o → b ∉ Ts.map (·.1) ∧ h.get? b = some o) ∧ (Ts.map (·.1)).Nodup ∧ (∀ t ∈ Ts, TabK h t.1 t.2) ∧ (∀ (s : Shared) (u : Value), BindsTo s fd ⟨[u], []⟩ [(x, u)]) ∧
        ∀ base : Heap, K'.In base → base.Ns mainGlobals mg → FnOk l.prog w K' mg base CX0 k fa fd [x] (sp K' Ts))
    (hsp : ∀ (K : PySem.W.Frag) (Ts : List (Addr × Array Value)) (H : Hp) (a : Addr) (ns : List Int), ns.length ≤ n → Tables Ts H → SqL K H a (ns.map V.int) → sp K Ts [.ref a] H (fun v H' => v = .bl true ∧ Tables Ts H') fun _ _ _ => False) :
    PySem.W.WalkO q loose XP YP l.row.toRowW d [] (fun f vs => PySem.call f vs) := by
  refine Att.attach_call hn hdf fun w s₀ s₁ mg mb fa o pm cd doc a vs ns G Y ho hd hcd hmg hobj hints hlen hg => ?_
  have KX := hY w _ Y
  obtain ⟨K', Ts, fd, hK', hnd, hT, hb, hF⟩ := F w mg fa _ KX ⟨G.T.g, fun d hd => G.T.tab d hd, G.T.bmain⟩ hmg
  exact law_callT hK' G.T.g G.T.b G.T.builtins G.T.nolimit hg hobj hints (Nat.le_trans hlen hn2) hr hnd hT hF hb (fun H hO hS => hsp _ Ts H a ns hlen hO hS) fun H e s' h => h

def spLaw (K : PySem.W.Frag) (Ts : List (Addr × Array Value)) : Sp := fun vs H Q _ => ∃ (a : Addr) (ns : List Int), vs = [.ref a] ∧ SqL K H a (ns.map V.int) ∧ ns.length ≤ 63 ∧ Tables Ts H ∧ ∀ H', Same H H' → Q (.bl true) H'
theorem spLaw_ok (K : PySem.W.Frag) (Ts : List (Addr × Array Value)) (H : Hp) (a : Addr) (ns : List Int) (hl : ns.length ≤ 63) (hT : Tables Ts H) (hS : SqL K H a (ns.map V.int)) : spLaw K Ts [.ref a] H (fun v H' => v = .bl true ∧ Tables Ts H') fun _ _ _ => False :=
  ⟨a, ns, rfl, hS, hl, hT, fun H' s => ⟨rfl, fun t ht => s _ _ (hT t ht)⟩⟩
end L2
namespace L2
open PySem
def apartB (as Ps : List Addr) : Bool := (as.all fun a => !Ps.contains a) && decide Ps.Nodup
theorem apartB_ok {as Ps : List Addr} (h : apartB as Ps = true) : (∀ a ∈ as, a ∉ Ps) ∧ Ps.Nodup := by
  unfold apartB at h
  rw [Bool.and_eq_true] at h
  refine ⟨fun a ha z => ?_, of_decide_eq_true h.2⟩
  have := List.all_eq_true.mp h.1 a ha
  simp [z] at this
end L2

namespace L2
open PySem PySem.Spec PyProof.Rows


theorem Same.tup {K : PySem.W.Frag} {H H' : Hp} {a : Addr} {xs : List V} (e : Same H H') (h : SqT K H a xs) : SqT K H' a xs := by
  rcases h with (h | ⟨o, h⟩) | h
  · exact .inl (.inl (e _ _ h))
  · exact .inl (.inr ⟨o, e _ _ h⟩)
  · exact .inr h
theorem Same.new {H : Hp} {l : Addr} {o : HO} (h : H l = none) : Same H (upd H l o) := fun b u e => by rw [upd_ne (ne_of_none e h)]; exact e
theorem Same.set {H H' : Hp} {l : Addr} {o : HO} (s : Same H H') (h : H l = none) : Same H (upd H' l o) := fun b u e => by rw [upd_ne (ne_of_none e h)]; exact s b u e
mutual
theorem Dp.mono {K : PySem.W.Frag} {H H' : Hp} (e : Same H H') : ∀ {d : PyData} {v : V}, Dp K H v d → Dp K H' v d
  | _, _, .non => .non
  | _, _, .bl b => .bl b
  | _, _, .int i => .int i
  | _, _, .str x => .str x
  | _, _, .lst s a => .lst (e.seq s) (DpAll.mono e a)
  | _, _, .tup s a => .tup (e.tup s) (DpAll.mono e a)
theorem DpAll.mono {K : PySem.W.Frag} {H H' : Hp} (e : Same H H') : ∀ {ds : List PyData} {vs : List V}, DpAll K H vs ds → DpAll K H' vs ds
  | _, _, .nil => .nil
  | _, _, .cons a b => .cons (Dp.mono e a) (DpAll.mono e b)
end
theorem DpAll.length {K : PySem.W.Frag} {H : Hp} : ∀ {ds : List PyData} {vs : List V}, DpAll K H vs ds → vs.length = ds.length
  | _, _, .nil => rfl
  | _, _, .cons a b => congrArg (· + 1) (DpAll.length b)
theorem DpAll.get {K : PySem.W.Frag} {H : Hp} : ∀ {ds : List PyData} {vs : List V} {i : Nat} {d : PyData}, DpAll K H vs ds → ds[i]? = some d → ∃ v, vs[i]? = some v ∧ Dp K H v d
  | _, _, _, _, .nil, e => by simp at e
  | _, _, 0, _, .cons a b, e => by simp at e; subst e; exact ⟨_, rfl, a⟩
  | _, _, i + 1, _, .cons a b, e => by
    obtain ⟨v, h1, h2⟩ := DpAll.get (i := i) b (by simpa using e)
    exact ⟨v, by simpa using h1, h2⟩
theorem DpAll.get' {K : PySem.W.Frag} {H : Hp} : ∀ {ds : List PyData} {vs : List V} {i : Nat} {v : V}, DpAll K H vs ds → vs[i]? = some v → ∃ d, ds[i]? = some d ∧ Dp K H v d
  | _, _, _, _, .nil, e => by simp at e
  | _, _, 0, _, .cons a b, e => by simp at e; subst e; exact ⟨_, rfl, a⟩
  | _, _, i + 1, _, .cons a b, e => by
    obtain ⟨v, h1, h2⟩ := DpAll.get' (i := i) b (by simpa using e)
    exact ⟨v, by simpa using h1, h2⟩
theorem DpAll.snoc {K : PySem.W.Frag} {H : Hp} {v : V} {d : PyData} (z : Dp K H v d) : ∀ {ds : List PyData} {vs : List V}, DpAll K H vs ds → DpAll K H (vs ++ [v]) (ds ++ [d])
  | _, _, .nil => .cons z .nil
  | _, _, .cons a b => .cons a (DpAll.snoc z b)
def tyN : PyData → String
  | .none => "NoneType"
  | .bool _ => "bool"
  | .int _ => "int"
  | .str _ => "str"
  | .list _ => "list"
  | .tuple _ => "tuple"
  | .dict _ => "dict"
def kitTT (a b : String) : Option Bool := if (Value.type a == Value.type b) = true then some true else if PySem.W.kitMeta b = true then (fastBuiltinMro a).map (·.contains (.type b)) else none
theorem kit_tt (K : PySem.W.Frag) (a b : String) : PySem.W.kitOne K (.type a) (.type b) = kitTT a b := rfl
def kitTL (a : String) : List String → Option Bool
  | [] => some false
  | c :: r => match kitTT a c with
    | some true => some true
    | some false => kitTL a r
    | none => none
theorem kit_tl (K : PySem.W.Frag) (a : String) : ∀ ns : List String, PySem.W.kitAny K (.type a) (ns.map Value.type) = kitTL a ns
  | [] => rfl
  | c :: r => by
    show (match PySem.W.kitOne K (.type a) (.type c) with | some true => some true | some false => PySem.W.kitAny K (.type a) (r.map Value.type) | none => none) = _
    rw [kit_tt, kit_tl K a r]
    rfl
section
variable {X : Cx} {pins : List (Addr × Obj)} {σ : St} {H : Hp} {s : Shared} {A : Around} {E : Value → Shared → Prop} {Q : Value → Shared → Prop}
theorem kitx_dp {x : V} {u : Value} {d : PyData} (I : Inv X pins σ H s) (rx : RelV x u) (hd : Dp X.K H x d) : ∃ G : Heap → Prop, PySem.W.KitX X.K u (.type (tyN d)) G ∧ G s.heap ∧ u ≠ .builtin "__main__.__loader__#opaque" := by
  cases hd with
  | non => cases (show u = Value.none from rx); exact ⟨_, PySem.W.kitx_none, True.intro, fun z => nomatch z⟩
  | bl y => cases (show u = Value.bool y from rx); exact ⟨_, PySem.W.kitx_bool, True.intro, fun z => nomatch z⟩
  | int i => obtain ⟨t, q⟩ := (show ∃ t, u = Value.int i t from rx); cases q; exact ⟨_, PySem.W.kitx_int, True.intro, fun z => nomatch z⟩
  | str y => obtain ⟨t, q⟩ := (show ∃ t, u = Value.str y t from rx); cases q; exact ⟨_, PySem.W.kitx_str, True.intro, fun z => nomatch z⟩
  | @lst a xs ds h _ =>
    cases (show u = Value.ref a from rx)
    obtain ⟨its, _, ⟨o, n, h1, h2, _⟩, _⟩ := I.list h
    exact ⟨_, PySem.W.kitx_list, ⟨o, h1, h2⟩, fun z => nomatch z⟩
  | @tup a xs ds h _ =>
    cases (show u = Value.ref a from rx)
    obtain ⟨its, _, ⟨o, h1, h2, _⟩, _⟩ := I.tuple h
    exact ⟨_, PySem.W.kitx_tuple, ⟨o, h1, h2⟩, fun z => nomatch z⟩
end

def rIsi (K : PySem.W.Frag) : List V → Hp → VK → Prop := fun xs H Q => ∃ x n d b, xs = [x, .ty n] ∧ Dp K H x d ∧ kitTT (tyN d) n = some b ∧ Q (.bl b) H

def rIsiT (K : PySem.W.Frag) : List V → Hp → VK → Prop := fun xs H Q => ∃ x tp ns d b, xs = [x, .ref tp] ∧ SqT K H tp (ns.map V.ty) ∧ Dp K H x d ∧ kitTL (tyN d) ns = some b ∧ Q (.bl b) H
theorem vals_ty : ∀ {ns : List String} {us : List Value}, Vals (ns.map V.ty) us → us = ns.map Value.type
  | [], _, .nil => rfl
  | n :: r, _, .cons a b => by
    cases (show _ = Value.type n from a)
    rw [vals_ty b]
    rfl
section
variable {X : Cx}
theorem call_isi : CallR X (.builtin "isinstance") (rIsi X.K) := by
  intro pins s σ H xs us Q I r h
  obtain ⟨x, n, d, b, rfl, hd, e, q⟩ := h
  obtain ⟨u, _, rfl, rx, r1⟩ := vals_cons r
  obtain ⟨c, _, rfl, rc, r2⟩ := vals_cons r1
  cases r2
  cases (show c = Value.type n from rc)
  obtain ⟨G, Z, p, hx⟩ := kitx_dp I rx hd
  exact PySem.W.kia_one Z I.kIn p ((kit_tt X.K _ _).trans e) hx fun tk => ⟨.bl b, H, I.tok tk, rfl, q⟩
theorem call_isiT : CallR X (.builtin "isinstance") (rIsiT X.K) := by
  intro pins s σ H xs us Q I r h
  obtain ⟨x, tp, ns, d, b, rfl, ht, hd, e, q⟩ := h
  obtain ⟨u, _, rfl, rx, r1⟩ := vals_cons r
  obtain ⟨c, _, rfl, rc, r2⟩ := vals_cons r1
  cases r2
  cases (show c = Value.ref tp from rc)
  obtain ⟨G, Z, p, hx⟩ := kitx_dp I rx hd
  obtain ⟨its, rv, ⟨⟨oc, od, dt, sl⟩, h1, h2, n, h3⟩, _⟩ := I.tuple ht
  have e1 := vals_ty rv
  subst e1
  have h2 : oc = .type "tuple" := h2
  have h3 : dt = .seq _ n := h3
  subst h2 h3
  exact PySem.W.kia_tup Z I.kIn p h1 ((kit_tl X.K _ _).trans e) hx fun tk => ⟨.bl b, H, I.tok tk, rfl, q⟩
theorem boot_isi : bootBuiltins "isinstance" = some (.builtin "isinstance") := by decide +kernel
end

def dBool : PyData → Bool
  | .bool _ => true
  | _ => false
def dList : PyData → Bool
  | .list _ => true
  | _ => false
def dTup : PyData → Bool
  | .tuple _ => true
  | _ => false
theorem kit_bool : ∀ d : PyData, kitTT (tyN d) "bool" = some (dBool d)
  | .none => (by decide +kernel : kitTT "NoneType" "bool" = some false)
  | .bool _ => (by decide +kernel : kitTT "bool" "bool" = some true)
  | .int _ => (by decide +kernel : kitTT "int" "bool" = some false)
  | .str _ => (by decide +kernel : kitTT "str" "bool" = some false)
  | .list _ => (by decide +kernel : kitTT "list" "bool" = some false)
  | .tuple _ => (by decide +kernel : kitTT "tuple" "bool" = some false)
  | .dict _ => (by decide +kernel : kitTT "dict" "bool" = some false)
theorem kit_list : ∀ d : PyData, kitTT (tyN d) "list" = some (dList d)
  | .none => (by decide +kernel : kitTT "NoneType" "list" = some false)
  | .bool _ => (by decide +kernel : kitTT "bool" "list" = some false)
  | .int _ => (by decide +kernel : kitTT "int" "list" = some false)
  | .str _ => (by decide +kernel : kitTT "str" "list" = some false)
  | .list _ => (by decide +kernel : kitTT "list" "list" = some true)
  | .tuple _ => (by decide +kernel : kitTT "tuple" "list" = some false)
  | .dict _ => (by decide +kernel : kitTT "dict" "list" = some false)
theorem kit_tuple : ∀ d : PyData, kitTT (tyN d) "tuple" = some (dTup d)
  | .none => (by decide +kernel : kitTT "NoneType" "tuple" = some false)
  | .bool _ => (by decide +kernel : kitTT "bool" "tuple" = some false)
  | .int _ => (by decide +kernel : kitTT "int" "tuple" = some false)
  | .str _ => (by decide +kernel : kitTT "str" "tuple" = some false)
  | .list _ => (by decide +kernel : kitTT "list" "tuple" = some false)
  | .tuple _ => (by decide +kernel : kitTT "tuple" "tuple" = some true)
  | .dict _ => (by decide +kernel : kitTT "dict" "tuple" = some false)
theorem kit_lt (d : PyData) : kitTL (tyN d) ["list", "tuple"] = some (dList d || dTup d) := by
  unfold kitTL
  rw [kit_list]
  cases h : dList d with
  | true => rfl
  | false =>
    dsimp only
    unfold kitTL
    rw [kit_tuple]
    cases dTup d <;> rfl
end L2

namespace L2
open PySem PySem.Spec PyProof.Rows


theorem lc_any {J : It} {n : Nat} {g : TG} {tt : TT} {te : TE} {vs : List Nat} {σ : St} {H1 : Hp} {D : Addr} {Qd : Hp → Prop} (Pv : Nat → Hp → Prop) (h0 : Pv 0 (upd H1 D (.lst []))) (hgo : ∀ i H, i < n → Pv i H → J.go i H) (hst : ∀ H, Pv n H → J.stop n H)
    (hs : ∀ i x H H', i < n → Pv i H → J.yld i H x H' → g x (wipe σ vs) H' fun σ2 H2 => wipe σ2 vs = wipe σ vs ∧ tt σ2 H2 fun b H3 =>
      if b = true then te σ2 H3 fun y H4 => ∃ acc, H4 D = some (.lst acc) ∧ acc.length < sizeLine ∧ Pv (i + 1) (upd H4 D (.lst (acc ++ [y]))) else Pv (i + 1) H3) (hd : ∀ H, Pv n H → Qd H) :
    ∃ W : Nat → Nat → Hp → Prop, (∃ m, W 0 m (upd H1 D (.lst []))) ∧ ∀ i m H, W i m H →
      (J.stop i H ∧ Qd H) ∨ (J.go i H ∧ ∃ Nx : Hp → Prop, (∀ H', Nx H' → ∃ m', m' < m ∧ W (i + 1) m' H') ∧ ∀ x H', J.yld i H x H' → g x (wipe σ vs) H' fun σ2 H2 => wipe σ2 vs = wipe σ vs ∧ tt σ2 H2 fun b H3 =>
        if b = true then te σ2 H3 fun y H4 => ∃ acc, H4 D = some (.lst acc) ∧ acc.length < sizeLine ∧ Nx (upd H4 D (.lst (acc ++ [y]))) else Nx H3) := by
  refine ⟨fun i m H => m = n - i ∧ i ≤ n ∧ Pv i H, ⟨n, by simp, Nat.zero_le _, h0⟩, ?_⟩
  rintro i m H ⟨rfl, hi, p⟩
  by_cases hlt : i < n
  · exact .inr ⟨hgo i H hlt p, Pv (i + 1), fun H' p' => ⟨n - (i + 1), by omega, rfl, hlt, p'⟩, fun x H' y => hs i x H H' hlt p y⟩
  · have e : i = n := by omega
    subst e
    exact .inl ⟨hst H p, hd H p⟩
theorem gg_any {J : It} {n : Nat} {g : TG} {tt : TT} {te : TE} {vs : List Nat} {σw : St} {H1 : Hp} {En : List V → Hp → Prop} (F : Nat → List V) (Pv : Nat → Hp → Prop) (hF : F 0 = []) (hl : ∀ i, i ≤ n → (F i).length < sizeLine) (h0 : Pv 0 H1) (hgo : ∀ i H, i < n → Pv i H → J.go i H) (hst : ∀ H, Pv n H → J.stop n H)
    (hs : ∀ i x H H' (K : V → Hp → Prop) (Kf : Hp → Prop), i < n → Pv i H → J.yld i H x H' → (∀ y H4, F (i + 1) = F i ++ [y] → Pv (i + 1) H4 → K y H4) → (∀ H3, F (i + 1) = F i → Pv (i + 1) H3 → Kf H3) →
      g x σw H' fun σ2 H2 => wipe σ2 vs = σw ∧ tt σ2 H2 fun b H3 => if b = true then te σ2 H3 K else Kf H3) (hd : ∀ H, Pv n H → En (F n) H) :
    ∃ W : List V → Nat → Nat → Hp → Prop, (∃ m, W [] 0 m H1) ∧ GGather J g tt te vs σw W En := by
  refine ⟨fun ys i m H => ys = F i ∧ m = n - i ∧ i ≤ n ∧ Pv i H, ⟨n, hF.symm, by simp, Nat.zero_le _, h0⟩, fun C hC => ?_⟩
  rintro i m H ⟨ys, hc, rfl, rfl, hi, p⟩
  by_cases hlt : i < n
  · refine .inr ⟨hgo i H hlt p, fun x H' y => hs i x H H' _ _ hlt p y (fun y H4 e q => ⟨F i, hc, hl i hi, n - (i + 1), by omega, e.symm, rfl, hlt, q⟩) fun H3 e q => ⟨n - (i + 1), by omega, F i, hc, e.symm, rfl, hlt, q⟩⟩
  · have e : i = n := by omega
    subst e
    exact .inl ⟨hst H p, F i, hc, hd H p⟩

section
variable {K : PySem.W.Frag} {t1 t2 t3 : Bool} {a b c : Addr} {xs ys zs : List V} {H H' : Hp} {i : Nat} {v : V}
theorem z2_go (h1 : SqB K t1 H a xs) (h2 : SqB K t2 H b ys) (l1 : i < xs.length) (l2 : i < ys.length) : (Itz2 K t1 t2 a b).go i H := ⟨xs, ys, xs[i], ys[i], h1, h2, by simp [l1], by simp [l2]⟩
theorem z2_stop (h1 : SqB K t1 H a xs) (h2 : SqB K t2 H b ys) (l : xs.length ≤ i ∨ ys.length ≤ i) : (Itz2 K t1 t2 a b).stop i H := ⟨xs, ys, h1, h2, l⟩
theorem z2_yld (h1 : SqB K t1 H a xs) (h2 : SqB K t2 H b ys) (h : (Itz2 K t1 t2 a b).yld i H v H') : ∃ T x y, v = .ref T ∧ H T = none ∧ H' = upd H T (.tup [x, y]) ∧ xs[i]? = some x ∧ ys[i]? = some y := by
  obtain ⟨T, x, y, e, n, e', f1, f2⟩ := h
  exact ⟨T, x, y, e, n, e', f1 _ h1, f2 _ h2⟩
theorem SqB.same {t : Bool} (e : Same H H') (h : SqB K t H a xs) : SqB K t H' a xs := by
  cases t with
  | true => exact e.tup h
  | false => exact e.seq h
end
end L2
namespace L2
theorem yes_ {σ : St} {H : Hp} {A B : Hp → Prop} (h : A H) : tYes σ H (fun (b : Bool) (H3 : Hp) => if b = true then A H3 else B H3) := by
  show if true = true then A H else B H
  exact iteT h
end L2

namespace Ss
open PySem L2


def iabs (i : Int) : Int := if i < 0 then -i else i
def cellF (ns : List Int) (k : Int) : Int := if k < (ns.length : Int) then ns.getD k.toNat 0 else 0
def dgBig (base : Int) : Nat → Int → List Int
  | 0, _ => []
  | n + 1, x => x % base :: dgBig base n (x / base)
def lcg (x : Int) : Int := (x * 48271 + 1) % 2147483647
def dgLcg (base : Int) : Nat → Int → List Int
  | 0, _ => []
  | n + 1, x => lcg x / 1009 % base :: dgLcg base n (lcg x)
def seed0 (c k : Int) : Int := (c * 7919 + k * 104729 + 17) % 2147483647
def seed (c k : Int) : Int := seed0 c k + seed0 c k * seed0 c k % 1000000007
def digitsF (ns : List Int) (k base many : Int) : List Int :=
  if iabs (cellF ns k) ≥ 10 ^ 18 then dgBig base many.toNat (iabs (cellF ns k)) else dgLcg base many.toNat (seed (cellF ns k) k)
theorem dgBig_len (base : Int) : ∀ (n : Nat) (x : Int), (dgBig base n x).length = n
  | 0, _ => rfl
  | n + 1, x => congrArg (· + 1) (dgBig_len base n _)
theorem dgLcg_len (base : Int) : ∀ (n : Nat) (x : Int), (dgLcg base n x).length = n
  | 0, _ => rfl
  | n + 1, x => congrArg (· + 1) (dgLcg_len base n _)
theorem dgBig_mem {base : Int} (hb : 0 < base) : ∀ (n : Nat) (x : Int) (d : Int), d ∈ dgBig base n x → 0 ≤ d ∧ d < base
  | 0, _, _, h => by cases h
  | n + 1, x, d, h => by
    rcases List.mem_cons.mp h with e | h
    · subst e; exact ⟨Int.emod_nonneg _ (by omega), Int.emod_lt_of_pos _ hb⟩
    · exact dgBig_mem hb n _ d h
theorem dgLcg_mem {base : Int} (hb : 0 < base) : ∀ (n : Nat) (x : Int) (d : Int), d ∈ dgLcg base n x → 0 ≤ d ∧ d < base
  | 0, _, _, h => by cases h
  | n + 1, x, d, h => by
    rcases List.mem_cons.mp h with e | h
    · subst e; exact ⟨Int.emod_nonneg _ (by omega), Int.emod_lt_of_pos _ hb⟩
    · exact dgLcg_mem hb n _ d h
theorem digitsF_len (ns : List Int) (k base many : Int) : (digitsF ns k base many).length = many.toNat := by
  unfold digitsF; split
  · exact dgBig_len _ _ _
  · exact dgLcg_len _ _ _
theorem digitsF_mem {ns : List Int} {k base many d : Int} (hb : 0 < base) (h : d ∈ digitsF ns k base many) : 0 ≤ d ∧ d < base := by
  unfold digitsF at h; split at h
  · exact dgBig_mem hb _ _ _ h
  · exact dgLcg_mem hb _ _ _ h

def restBig (base : Int) : Nat → Int → Int
  | 0, x => x
  | n + 1, x => restBig base n x / base
def restLcg : Nat → Int → Int
  | 0, x => x
  | n + 1, x => lcg (restLcg n x)
theorem restBig_shift (base : Int) : ∀ (n : Nat) (x : Int), restBig base (n + 1) x = restBig base n (x / base)
  | 0, _ => rfl
  | n + 1, x => congrArg (· / base) (restBig_shift base n x)
theorem restLcg_shift : ∀ (n : Nat) (x : Int), restLcg (n + 1) x = restLcg n (lcg x)
  | 0, _ => rfl
  | n + 1, x => congrArg lcg (restLcg_shift n x)
theorem dgBig_step (base : Int) : ∀ (n : Nat) (x : Int), dgBig base (n + 1) x = dgBig base n x ++ [restBig base n x % base]
  | 0, _ => rfl
  | n + 1, x => by
    show x % base :: dgBig base (n + 1) (x / base) = (x % base :: dgBig base n (x / base)) ++ _
    rw [dgBig_step base n, restBig_shift]; rfl
theorem dgLcg_step (base : Int) : ∀ (n : Nat) (x : Int), dgLcg base (n + 1) x = dgLcg base n x ++ [restLcg (n + 1) x / 1009 % base]
  | 0, _ => rfl
  | n + 1, x => by
    show lcg x / 1009 % base :: dgLcg base (n + 1) (lcg x) = (lcg x / 1009 % base :: dgLcg base n (lcg x)) ++ _
    rw [dgLcg_step base n, restLcg_shift (n + 1)]; rfl
theorem lcg_bd (x : Int) : 0 ≤ lcg x ∧ lcg x < 2147483647 := ⟨Int.emod_nonneg _ (by decide), Int.emod_lt_of_pos _ (by decide)⟩
theorem seed0_bd (c k : Int) : 0 ≤ seed0 c k ∧ seed0 c k < 2147483647 := ⟨Int.emod_nonneg _ (by decide), Int.emod_lt_of_pos _ (by decide)⟩
theorem seed_bd (c k : Int) : 0 ≤ seed c k ∧ seed c k < 4294967296 := by
  have h1 := seed0_bd c k
  have h2 : 0 ≤ seed0 c k * seed0 c k % 1000000007 := Int.emod_nonneg _ (by decide)
  have h3 : seed0 c k * seed0 c k % 1000000007 < 1000000007 := Int.emod_lt_of_pos _ (by decide)
  unfold seed
  omega
theorem restLcg_bd (c k : Int) : ∀ n, 0 ≤ restLcg n (seed c k) ∧ restLcg n (seed c k) < 4294967296
  | 0 => seed_bd c k
  | n + 1 => by
    have := lcg_bd (restLcg n (seed c k))
    show 0 ≤ lcg _ ∧ lcg _ < _
    omega
def oneF (ns : List Int) (k base : Int) : Int := (digitsF ns k base 1).getD 0 0
theorem oneF_bd {ns : List Int} {k base : Int} (hb : 0 < base) : 0 ≤ oneF ns k base ∧ oneF ns k base < base := by
  have hl := digitsF_len ns k base 1
  unfold oneF
  cases e : digitsF ns k base 1 with
  | nil => rw [e] at hl; cases hl
  | cons d r => exact digitsF_mem (ns := ns) (k := k) (many := 1) hb (by rw [e]; exact List.mem_cons_self)
theorem digits3 {ns : List Int} {k base : Int} (hb : 0 < base) : ∃ a b c, digitsF ns k base 3 = [a, b, c] ∧ (0 ≤ a ∧ a < base) ∧ (0 ≤ b ∧ b < base) ∧ 0 ≤ c ∧ c < base := by
  have hl := digitsF_len ns k base 3
  match e : digitsF ns k base 3, hl with
  | [a, b, c], _ => exact ⟨a, b, c, rfl, digitsF_mem hb (by rw [e]; simp), digitsF_mem hb (by rw [e]; simp), digitsF_mem hb (by rw [e]; simp)⟩


abbrev T3i := Int × Int × Int
def l3 (t : T3i) : List V := [.int t.1, .int t.2.1, .int t.2.2]
def d3 (t : T3i) : PyData := .tuple [.int t.1, .int t.2.1, .int t.2.2]

def T3 (K : PySem.W.Frag) (H : Hp) (v : V) (t : T3i) : Prop := ∃ p, v = .ref p ∧ H p = some (.tup (l3 t))
def B3 (K : PySem.W.Frag) (H : Hp) (v : V) (t : T3i) : Prop := ∃ p b, v = .ref p ∧ SqB K b H p (l3 t)
theorem T3.b {K : PySem.W.Frag} {H : Hp} {v : V} {t : T3i} (h : T3 K H v t) : B3 K H v t := let ⟨p, e, q⟩ := h; ⟨p, true, e, SqT.of q⟩
theorem T3.mono {K : PySem.W.Frag} {H H' : Hp} {v : V} {t : T3i} (s : Same H H') (h : T3 K H v t) : T3 K H' v t := let ⟨p, e, q⟩ := h; ⟨p, e, s _ _ q⟩
theorem T3.q {K : PySem.W.Frag} {H : Hp} {p : Addr} {t : T3i} (h : T3 K H (.ref p) t) : SqT K H p (l3 t) := let ⟨_, e, q⟩ := h; by cases e; exact SqT.of q
theorem B3.mono {K : PySem.W.Frag} {H H' : Hp} {v : V} {t : T3i} (s : Same H H') (h : B3 K H v t) : B3 K H' v t := let ⟨p, b, e, q⟩ := h; ⟨p, b, e, SqB.same s q⟩
theorem T3.dp {K : PySem.W.Frag} {H : Hp} {v : V} {t : T3i} (h : T3 K H v t) : Dp K H v (d3 t) := by
  obtain ⟨p, e, q⟩ := h
  subst e
  exact .tup (SqT.of q) (.cons (.int _) (.cons (.int _) (.cons (.int _) .nil)))
theorem T3.of {K : PySem.W.Frag} {H : Hp} {p : Addr} {x y z : Int} (h : H p = some (.tup [.int x, .int y, .int z])) : T3 K H (.ref p) (x, y, z) := ⟨p, rfl, h⟩
theorem ixq {K : PySem.W.Frag} {H : Hp} {p : Addr} {b : Bool} {xs : List V} {i : Int} {v : V} {Q : VK} (h : SqB K b H p xs) (e : atI xs i = some v) (q : Q v H) : rIx K (.ref p) (.int i) H Q := by
  cases b with
  | true => exact .inr (.inl ⟨p, xs, i, v, rfl, rfl, h, e, q⟩)
  | false => exact .inl ⟨p, xs, i, v, rfl, rfl, h, e, q⟩


def inF (s p : T3i) : Bool := decide (0 ≤ p.1 ∧ p.1 < s.1 ∧ 0 ≤ p.2.1 ∧ p.2.1 < s.2.1 ∧ 0 ≤ p.2.2 ∧ p.2.2 < s.2.2)
def stepF (p w : T3i) (m : Int) : T3i := (p.1 + m * w.1, p.2.1 + m * w.2.1, p.2.2 + m * w.2.2)
def clampF (i : Int) : Int := if (if i < 1 then i else 1) > -1 then (if i < 1 then i else 1) else -1
def gcd3 (t : T3i) : Int := ((Int.gcd ((Int.gcd t.1 t.2.1 : Nat) : Int) t.2.2 : Nat) : Int)
def rowF (ns : List Int) (k : Int) : T3i := match digitsF ns k 7 3 with
  | [a, b, c] => if oneF ns k 98 % 2 = 0 then (clampF (a - 3), clampF (b - 3), clampF (c - 3)) else (a - 3, b - 3, c - 3)
  | _ => (0, 0, 1)
def wayOf (r : T3i) : T3i := if gcd3 r = 0 then (0, 0, 1) else (r.1 / gcd3 r, r.2.1 / gcd3 r, r.2.2 / gcd3 r)
def wayF (ns : List Int) (k : Int) : T3i := wayOf (rowF ns k)
def sizesF (ns : List Int) (k : Int) : T3i := match digitsF ns k 6 3 with
  | [a, b, c] => (1 + a, 1 + b, 1 + c)
  | _ => (1, 1, 1)
def IsSizes (s : T3i) : Prop := (1 ≤ s.1 ∧ s.1 ≤ 6) ∧ (1 ≤ s.2.1 ∧ s.2.1 ≤ 6) ∧ 1 ≤ s.2.2 ∧ s.2.2 ≤ 6
def Small3 (w : T3i) : Prop := (-3 ≤ w.1 ∧ w.1 ≤ 3) ∧ (-3 ≤ w.2.1 ∧ w.2.1 ≤ 3) ∧ -3 ≤ w.2.2 ∧ w.2.2 ≤ 3
structure IsWay (w : T3i) : Prop where
  small : Small3 w
  nz : ¬ (w.1 = 0 ∧ w.2.1 = 0 ∧ w.2.2 = 0)
  gcd : gcd3 w = 1
theorem sizesF_ok (ns : List Int) (k : Int) : IsSizes (sizesF ns k) := by
  obtain ⟨a, b, c, e, h1, h2, h3⟩ := digits3 (ns := ns) (k := k) (base := 6) (by decide)
  unfold sizesF
  rw [e]
  exact ⟨⟨by show 1 ≤ 1 + a; omega, by show 1 + a ≤ 6; omega⟩, ⟨by show 1 ≤ 1 + b; omega, by show 1 + b ≤ 6; omega⟩, by show 1 ≤ 1 + c; omega, by show 1 + c ≤ 6; omega⟩
theorem clampF_bd (i : Int) : -1 ≤ clampF i ∧ clampF i ≤ 1 := by
  unfold clampF; split <;> split at * <;> omega
theorem rowF_small (ns : List Int) (k : Int) : Small3 (rowF ns k) := by
  obtain ⟨a, b, c, e, h1, h2, h3⟩ := digits3 (ns := ns) (k := k) (base := 7) (by decide)
  unfold rowF
  rw [e]
  dsimp only
  split
  · have h1 := clampF_bd (a - 3)
    have h2 := clampF_bd (b - 3)
    have h3 := clampF_bd (c - 3)
    refine ⟨?_, ?_, ?_, ?_⟩ <;> dsimp only <;> omega
  · refine ⟨?_, ?_, ?_, ?_⟩ <;> dsimp only <;> omega
instance (w : T3i) : Decidable (Small3 w) := by unfold Small3; infer_instance
def r7 : List Int := [-3, -2, -1, 0, 1, 2, 3]
theorem mem_r7 {x : Int} (h : -3 ≤ x ∧ x ≤ 3) : x ∈ r7 := by
  have : x = -3 ∨ x = -2 ∨ x = -1 ∨ x = 0 ∨ x = 1 ∨ x = 2 ∨ x = 3 := by omega
  unfold r7
  rcases this with e | e | e | e | e | e | e <;> subst e <;> decide
theorem all_ways : (r7.all fun a => r7.all fun b => r7.all fun c => decide (Small3 (wayOf (a, b, c)) ∧ ¬ ((wayOf (a, b, c)).1 = 0 ∧ (wayOf (a, b, c)).2.1 = 0 ∧ (wayOf (a, b, c)).2.2 = 0) ∧ gcd3 (wayOf (a, b, c)) = 1)) = true := by decide +kernel
theorem wayF_ok (ns : List Int) (k : Int) : IsWay (wayF ns k) := by
  obtain ⟨h1, h2, h3⟩ := rowF_small ns k
  have := all_ways
  rw [List.all_eq_true] at this
  have := this _ (mem_r7 h1)
  rw [List.all_eq_true] at this
  have := this _ (mem_r7 h2)
  rw [List.all_eq_true] at this
  have := this _ (mem_r7 h3)
  obtain ⟨a, b, c⟩ := of_decide_eq_true this
  exact ⟨a, b, c⟩
end Ss
namespace Ss
open PySem L2
theorem digitsF_eq (ns : List Int) (k base many : Int) : (10 ^ 18 ≤ iabs (cellF ns k) → digitsF ns k base many = dgBig base many.toNat (iabs (cellF ns k))) ∧ (¬ 10 ^ 18 ≤ iabs (cellF ns k) → digitsF ns k base many = dgLcg base many.toNat (seed (cellF ns k) k)) :=
  ⟨fun h => if_pos h, fun h => if_neg h⟩
theorem at_int {ns : List Int} {k : Int} (h0 : 0 ≤ k) (h1 : k < (ns.length : Int)) : atI (ns.map V.int) k = some (.int (ns.getD k.toNat 0)) := by
  refine at_of (j := k.toNat) (by omega) ?_
  have hl : k.toNat < ns.length := by omega
  rw [List.getElem?_map, List.getD_eq_getElem?_getD, List.getElem?_eq_getElem hl]
  rfl
end Ss
namespace Ss
open PySem L2
theorem iabs_nat (x : Int) : iabs x = (x.natAbs : Int) := by unfold iabs; split <;> omega
def get3 (t : T3i) : Nat → Int
  | 0 => t.1
  | 1 => t.2.1
  | _ => t.2.2
def inAt (s p : T3i) (i : Nat) : Prop := 0 ≤ get3 p i ∧ get3 p i < get3 s i
instance (s p : T3i) (i : Nat) : Decidable (inAt s p i) := by unfold inAt; infer_instance
theorem inF_iff {s p : T3i} : inF s p = true ↔ ∀ j, j < 3 → inAt s p j := by
  unfold inF
  rw [decide_eq_true_iff]
  constructor
  · intro h j hj
    match j, hj with
    | 0, _ => exact ⟨h.1, h.2.1⟩
    | 1, _ => exact ⟨h.2.2.1, h.2.2.2.1⟩
    | 2, _ => exact ⟨h.2.2.2.2.1, h.2.2.2.2.2⟩
  · intro h
    have h0 := h 0 (by decide)
    have h1 := h 1 (by decide)
    have h2 := h 2 (by decide)
    exact ⟨h0.1, h0.2, h1.1, h1.2, h2.1, h2.2⟩
theorem inF_true {s p : T3i} (h : ∀ j, j < 3 → inAt s p j) : inF s p = true := inF_iff.mpr h
theorem inF_false {s p : T3i} {i : Nat} (hi : i < 3) (h : ¬ inAt s p i) : inF s p = false := by
  cases e : inF s p with
  | false => rfl
  | true => exact absurd (inF_iff.mp e i hi) h
end Ss
namespace Ss
open PySem L2
theorem all_gcd : (r7.all fun a => r7.all fun b => r7.all fun c => decide (gcd3 (a, b, c) < 1073741824)) = true := by decide +kernel
theorem gcd3_small {r : T3i} (h : Small3 r) : gcd3 r < 1073741824 := by
  obtain ⟨h1, h2, h3⟩ := h
  have := all_gcd
  rw [List.all_eq_true] at this
  have := this _ (mem_r7 h1)
  rw [List.all_eq_true] at this
  have := this _ (mem_r7 h2)
  rw [List.all_eq_true] at this
  exact of_decide_eq_true (this _ (mem_r7 h3))
end Ss
namespace Ss
open PySem L2
theorem take_lt {xs : List V} (i : Nat) (h : xs.length ≤ 1000) : (xs.take i).length < sizeLine := small1000 (by rw [List.length_take]; omega)

def roomF (s w p : Int) : Int := if 0 < w then p / w else (s - 1 - p) / -w
def roomsF (s w p : T3i) : List Int := ([(s.1, w.1, p.1), (s.2.1, w.2.1, p.2.1), (s.2.2, w.2.2, p.2.2)] : List T3i).filterMap fun t => if t.2.1 = 0 then none else some (roomF t.1 t.2.1 t.2.2)
def minL : List Int → Int
  | [] => 0
  | x :: r => r.foldl min x
theorem foldl_min : ∀ (r : List Int) (x : Int), (r.foldl min x = x ∨ r.foldl min x ∈ r) ∧ r.foldl min x ≤ x ∧ ∀ y ∈ r, r.foldl min x ≤ y
  | [], x => ⟨.inl rfl, Int.le_refl _, fun y h => by cases h⟩
  | a :: r, x => by
    obtain ⟨h1, h2, h3⟩ := foldl_min r (min x a)
    refine ⟨?_, by show List.foldl min (min x a) r ≤ x; omega, fun y hy => ?_⟩
    · show List.foldl min (min x a) r = x ∨ List.foldl min (min x a) r ∈ a :: r
      rcases h1 with h1 | h1
      · rw [h1]
        rcases Int.le_total x a with z | z
        · exact .inl (by omega)
        · exact .inr (by rw [Int.min_eq_right z]; exact List.mem_cons_self)
      · exact .inr (List.mem_cons_of_mem _ h1)
    · show List.foldl min (min x a) r ≤ y
      rcases List.mem_cons.mp hy with e | hy
      · subst e; omega
      · exact h3 y hy
theorem minL_spec {l : List Int} (h : 0 < l.length) : minL l ∈ l ∧ ∀ y ∈ l, minL l ≤ y := by
  cases l with
  | nil => cases h
  | cons x r =>
    obtain ⟨h1, h2, h3⟩ := foldl_min r x
    refine ⟨?_, fun y hy => ?_⟩
    · show r.foldl min x ∈ x :: r
      rcases h1 with e | e
      · rw [e]; exact List.mem_cons_self
      · exact List.mem_cons_of_mem _ e
    · rcases List.mem_cons.mp hy with e | hy
      · subst e; exact h2
      · exact h3 y hy
def depthF (s w p : T3i) : Int := minL (roomsF s w p)
def doorF (s w p : T3i) : T3i := stepF p w (-depthF s w p)
theorem roomsF_pos {s w p : T3i} (h : ¬ (w.1 = 0 ∧ w.2.1 = 0 ∧ w.2.2 = 0)) : 0 < (roomsF s w p).length := by
  unfold roomsF
  by_cases h1 : w.1 = 0
  · by_cases h2 : w.2.1 = 0
    · have h3 : ¬ w.2.2 = 0 := fun z => h ⟨h1, h2, z⟩
      simp [h1, h2, h3]
    · simp [h1, h2]
  · simp [h1]
theorem roomsF_mem {s w p : T3i} {x : Int} : x ∈ roomsF s w p ↔ ∃ i, i < 3 ∧ get3 w i ≠ 0 ∧ x = roomF (get3 s i) (get3 w i) (get3 p i) := by
  unfold roomsF
  rw [List.mem_filterMap]
  constructor
  · rintro ⟨t, ht, e⟩
    have ht : t = (s.1, w.1, p.1) ∨ t = (s.2.1, w.2.1, p.2.1) ∨ t = (s.2.2, w.2.2, p.2.2) := by simpa using ht
    split at e
    · cases e
    · rename_i hz
      cases e
      rcases ht with rfl | rfl | rfl
      · exact ⟨0, by decide, hz, rfl⟩
      · exact ⟨1, by decide, hz, rfl⟩
      · exact ⟨2, by decide, hz, rfl⟩
  · rintro ⟨i, hi, hz, e⟩
    match i, hi with
    | 0, _ => exact ⟨(s.1, w.1, p.1), by simp, by rw [if_neg (show ¬ w.1 = 0 from hz), e]; rfl⟩
    | 1, _ => exact ⟨(s.2.1, w.2.1, p.2.1), by simp, by rw [if_neg (show ¬ w.2.1 = 0 from hz), e]; rfl⟩
    | 2, _ => exact ⟨(s.2.2, w.2.2, p.2.2), by simp, by rw [if_neg (show ¬ w.2.2 = 0 from hz), e]; rfl⟩
theorem small_get {w : T3i} (h : Small3 w) {i : Nat} (hi : i < 3) : -3 ≤ get3 w i ∧ get3 w i ≤ 3 := by
  match i, hi with
  | 0, _ => exact h.1
  | 1, _ => exact h.2.1
  | 2, _ => exact h.2.2
theorem step_get (p w : T3i) (m : Int) (i : Nat) : get3 (stepF p w m) i = get3 p i + m * get3 w i := by
  match i with
  | 0 => rfl
  | 1 => rfl
  | _ + 2 => rfl

theorem room_in {s w p m : Int} (hw : -3 ≤ w ∧ w ≤ 3) (hz : w ≠ 0) (hp : 0 ≤ p ∧ p < s) (h0 : 0 ≤ m) (hm : m ≤ roomF s w p) : 0 ≤ p + -m * w ∧ p + -m * w < s := by
  unfold roomF at hm
  have : w = -3 ∨ w = -2 ∨ w = -1 ∨ w = 1 ∨ w = 2 ∨ w = 3 := by omega
  rcases this with e | e | e | e | e | e <;> subst e <;> simp at hm <;> omega
theorem room_out {s w p : Int} (hw : -3 ≤ w ∧ w ≤ 3) (hz : w ≠ 0) (hp : 0 ≤ p ∧ p < s) : ¬ (0 ≤ p + -(roomF s w p + 1) * w ∧ p + -(roomF s w p + 1) * w < s) := by
  unfold roomF
  have : w = -3 ∨ w = -2 ∨ w = -1 ∨ w = 1 ∨ w = 2 ∨ w = 3 := by omega
  rcases this with e | e | e | e | e | e <;> subst e <;> simp <;> omega
theorem room_nonneg {s w p : Int} (hw : -3 ≤ w ∧ w ≤ 3) (hz : w ≠ 0) (hp : 0 ≤ p ∧ p < s) : 0 ≤ roomF s w p := by
  unfold roomF
  have : w = -3 ∨ w = -2 ∨ w = -1 ∨ w = 1 ∨ w = 2 ∨ w = 3 := by omega
  rcases this with e | e | e | e | e | e <;> subst e <;> simp <;> omega
section
variable {s w p : T3i}
theorem depthF_spec (hw : IsWay w) (hp : inF s p = true) : 0 ≤ depthF s w p ∧ (∀ i, i < 3 → get3 w i ≠ 0 → depthF s w p ≤ roomF (get3 s i) (get3 w i) (get3 p i)) ∧ ∃ i, i < 3 ∧ get3 w i ≠ 0 ∧ depthF s w p = roomF (get3 s i) (get3 w i) (get3 p i) := by
  obtain ⟨h1, h2⟩ := minL_spec (roomsF_pos (s := s) (p := p) hw.nz)
  obtain ⟨i, hi, hz, e⟩ := roomsF_mem.mp h1
  have hin := inF_iff.mp hp i hi
  refine ⟨?_, fun j hj hzj => h2 _ (roomsF_mem.mpr ⟨j, hj, hzj, rfl⟩), i, hi, hz, e⟩
  show 0 ≤ minL _
  rw [e]
  exact room_nonneg (small_get hw.small hi) hz hin
theorem door_in (hw : IsWay w) (hp : inF s p = true) : inF s (doorF s w p) = true := by
  obtain ⟨h0, h1, _⟩ := depthF_spec hw hp
  refine inF_true fun i hi => ?_
  unfold inAt doorF
  rw [step_get]
  have hin := inF_iff.mp hp i hi
  by_cases hz : get3 w i = 0
  · rw [hz, Int.mul_zero, Int.add_zero]; exact hin
  · exact room_in (small_get hw.small hi) hz hin h0 (h1 i hi hz)
theorem door_out (hw : IsWay w) (hp : inF s p = true) : inF s (stepF (doorF s w p) w (-1)) = false := by
  obtain ⟨h0, _, i, hi, hz, e⟩ := depthF_spec hw hp
  refine inF_false hi ?_
  unfold inAt doorF
  rw [step_get, step_get, e]
  have := room_out (s := get3 s i) (small_get hw.small hi) hz (inF_iff.mp hp i hi)
  have e2 : get3 p i + -roomF (get3 s i) (get3 w i) (get3 p i) * get3 w i + -1 * get3 w i = get3 p i + -(roomF (get3 s i) (get3 w i) (get3 p i) + 1) * get3 w i := by
    rw [Int.neg_add, Int.add_mul]; omega
  rw [e2]
  exact this
end
theorem door_back (s w p : T3i) : stepF (doorF s w p) w (depthF s w p) = p := by
  obtain ⟨x, y, z⟩ := p
  unfold doorF
  generalize depthF s w (x, y, z) = m
  unfold stepF
  dsimp only
  rw [Int.neg_mul, Int.neg_mul, Int.neg_mul]
  refine Prod.ext ?_ (Prod.ext ?_ ?_) <;> dsimp only <;> omega
end Ss
namespace Ss
open PySem L2
theorem l3_get {t : T3i} {i : Nat} {v : V} (hi : i < 3) (h : (l3 t)[i]? = some v) : v = .int (get3 t i) := by
  match i, hi, h with
  | 0, _, h => exact (Option.some.inj h).symm
  | 1, _, h => exact (Option.some.inj h).symm
  | 2, _, h => exact (Option.some.inj h).symm
theorem l3_take (t : T3i) {i : Nat} (hi : i < 3) : (l3 t).take (i + 1) = (l3 t).take i ++ [.int (get3 t i)] := by
  match i, hi with
  | 0, _ => rfl
  | 1, _ => rfl
  | 2, _ => rfl
def lt3 (a b : T3i) : Bool := HT.lexLt [a.1, a.2.1, a.2.2] [b.1, b.2.1, b.2.2]
inductive All3 (K : PySem.W.Frag) (H : Hp) : List V → List T3i → Prop
  | nil : All3 K H [] []
  | cons {v : V} {vs : List V} {t : T3i} {ts : List T3i} : T3 K H v t → All3 K H vs ts → All3 K H (v :: vs) (t :: ts)
theorem All3.mono {K : PySem.W.Frag} {H H' : Hp} (e : Same H H') : ∀ {vs : List V} {ts : List T3i}, All3 K H vs ts → All3 K H' vs ts
  | _, _, .nil => .nil
  | _, _, .cons a b => .cons (a.mono e) (All3.mono e b)
theorem All3.length {K : PySem.W.Frag} {H : Hp} : ∀ {vs : List V} {ts : List T3i}, All3 K H vs ts → vs.length = ts.length
  | _, _, .nil => rfl
  | _, _, .cons _ b => congrArg (· + 1) (All3.length b)
theorem All3.get {K : PySem.W.Frag} {H : Hp} : ∀ {vs : List V} {ts : List T3i} {i : Nat} {v : V}, All3 K H vs ts → vs[i]? = some v → ∃ t, ts[i]? = some t ∧ T3 K H v t
  | _, _, _, _, .nil, e => by simp at e
  | _, _, 0, _, .cons a _, e => by simp at e; subst e; exact ⟨_, rfl, a⟩
  | _, _, i + 1, _, .cons _ b, e => by
    obtain ⟨t, h1, h2⟩ := All3.get (i := i) b (by simpa using e)
    exact ⟨t, by simpa using h1, h2⟩
theorem All3.dp {K : PySem.W.Frag} {H : Hp} : ∀ {vs : List V} {ts : List T3i}, All3 K H vs ts → DpAll K H vs (ts.map d3)
  | _, _, .nil => .nil
  | _, _, .cons a b => .cons a.dp (All3.dp b)
end Ss
namespace Ss
open PySem L2

inductive Dok : Nat → PyData → Prop
  | none {n : Nat} : Dok n .none
  | bool {n : Nat} (b : Bool) : Dok n (.bool b)
  | int {n : Nat} (i : Int) : Dok n (.int i)
  | str {n : Nat} {x : Str} (h : (PyData.str x).canLay0 = true) : Dok n (.str x)
  | list {n : Nat} {ds : List PyData} (h : ds.length ≤ 1000) (a : ∀ d ∈ ds, Dok n d) : Dok (n + 1) (.list ds)
  | tuple {n : Nat} {ds : List PyData} (h : ds.length ≤ 1000) (a : ∀ d ∈ ds, Dok n d) : Dok (n + 1) (.tuple ds)
  | listB {n : Nat} {ds : List PyData} (h : ds.length ≤ 500000) (a : ∀ d ∈ ds, Dok n d) : Dok (n + 1) (.list ds)
theorem Dok.mono {n m : Nat} {d : PyData} (h : Dok n d) : n ≤ m → Dok m d := by
  induction h generalizing m with
  | none => intro _; exact .none
  | bool b => intro _; exact .bool b
  | int i => intro _; exact .int i
  | str h => intro _; exact .str h
  | @list n ds h a ih =>
    intro hm
    obtain ⟨k, rfl⟩ : ∃ k, m = k + 1 := ⟨m - 1, by omega⟩
    exact .list h fun d hd => ih d hd (by omega)
  | @tuple n ds h a ih =>
    intro hm
    obtain ⟨k, rfl⟩ : ∃ k, m = k + 1 := ⟨m - 1, by omega⟩
    exact .tuple h fun d hd => ih d hd (by omega)
  | @listB n ds h a ih =>
    intro hm
    obtain ⟨k, rfl⟩ : ∃ k, m = k + 1 := ⟨m - 1, by omega⟩
    exact .listB h fun d hd => ih d hd (by omega)
theorem shaped_str {x : Str} (h : (PyData.str x).canLay0 = true) : SeqAt.shaped (.str x) = true := by
  unfold SeqAt.shaped
  rw [h]
  simp [PyData.depth]
theorem Dok.lay {n : Nat} {d : PyData} (h : Dok n d) : d.canLay0 = true ∧ d.depth ≤ n := by
  induction h with
  | none => exact ⟨rfl, by simp [PyData.depth]⟩
  | bool b => exact ⟨rfl, by simp [PyData.depth]⟩
  | int i => exact ⟨rfl, by simp [PyData.depth]⟩
  | str h => exact ⟨h, by simp [PyData.depth]⟩
  | @list n ds h a ih =>
    have key : ∀ l : List PyData, (∀ d ∈ l, d.canLay0 = true ∧ d.depth ≤ n) → PyData.canLayAll0 l = true ∧ PyData.depthAll l ≤ n := by
      intro l
      induction l with
      | nil => intro _; exact ⟨rfl, by simp [PyData.depthAll]⟩
      | cons x r ihr =>
        intro hx
        obtain ⟨h1, h2⟩ := hx x (by simp)
        obtain ⟨h3, h4⟩ := ihr fun d hd => hx d (by simp [hd])
        refine ⟨by show (x.canLay0 && PyData.canLayAll0 r) = true; rw [h1, h3]; rfl, ?_⟩
        rw [PyData.depthAll]; omega
    obtain ⟨h1, h2⟩ := key ds ih
    exact ⟨h1, by rw [PyData.depth]; omega⟩
  | @tuple n ds h a ih =>
    have key : ∀ l : List PyData, (∀ d ∈ l, d.canLay0 = true ∧ d.depth ≤ n) → PyData.canLayAll0 l = true ∧ PyData.depthAll l ≤ n := by
      intro l
      induction l with
      | nil => intro _; exact ⟨rfl, by simp [PyData.depthAll]⟩
      | cons x r ihr =>
        intro hx
        obtain ⟨h1, h2⟩ := hx x (by simp)
        obtain ⟨h3, h4⟩ := ihr fun d hd => hx d (by simp [hd])
        refine ⟨by show (x.canLay0 && PyData.canLayAll0 r) = true; rw [h1, h3]; rfl, ?_⟩
        rw [PyData.depthAll]; omega
    obtain ⟨h1, h2⟩ := key ds ih
    exact ⟨h1, by rw [PyData.depth]; omega⟩
  | @listB n ds h a ih =>
    have key : ∀ l : List PyData, (∀ d ∈ l, d.canLay0 = true ∧ d.depth ≤ n) → PyData.canLayAll0 l = true ∧ PyData.depthAll l ≤ n := by
      intro l
      induction l with
      | nil => intro _; exact ⟨rfl, by simp [PyData.depthAll]⟩
      | cons x r ihr =>
        intro hx
        obtain ⟨h1, h2⟩ := hx x (by simp)
        obtain ⟨h3, h4⟩ := ihr fun d hd => hx d (by simp [hd])
        refine ⟨by show (x.canLay0 && PyData.canLayAll0 r) = true; rw [h1, h3]; rfl, ?_⟩
        rw [PyData.depthAll]; omega
    obtain ⟨h1, h2⟩ := key ds ih
    exact ⟨h1, by rw [PyData.depth]; omega⟩
theorem Dok.shaped {n : Nat} {d : PyData} (h : Dok n d) (hn : n ≤ 60) : SeqAt.shaped d = true := by
  obtain ⟨h1, h2⟩ := h.lay
  unfold SeqAt.shaped
  rw [h1, decide_eq_true (by omega)]
  rfl
theorem Dok.eqv {n : Nat} {d : PyData} (h : Dok n d) : PyData.eqv d d = true := SeqAt.eqv_refl _ h.lay.1
theorem Dok.scal0 {d : PyData} (h : Dok 0 d) : ∃ _ : True, (dList d || dTup d) = false ∧ SeqAt.shaped d = true ∧ d.canLay0 = true := by
  cases h with
  | none => exact ⟨trivial, rfl, rfl, rfl⟩
  | bool b => exact ⟨trivial, rfl, rfl, rfl⟩
  | int i => exact ⟨trivial, rfl, rfl, rfl⟩
  | str h => exact ⟨trivial, rfl, shaped_str h, h⟩
theorem smallB {n : Nat} (h : n ≤ 500000) : n < sizeLine := Nat.lt_of_le_of_lt h (by decide)
theorem Dok.split {n : Nat} {d : PyData} (h : Dok (n + 1) d) : ((dList d || dTup d) = false ∧ SeqAt.shaped d = true ∧ d.canLay0 = true) ∨
    ∃ ds : List PyData, ((dList d || dTup d) = true ∧ ∃ b : Bool, ∀ {K : PySem.W.Frag} (H : Hp) (v : V), Dp K H v d → ∃ a xs, v = .ref a ∧ SqB K b H a xs ∧ DpAll K H xs ds) ∧ ds.length ≤ 500000 ∧ ∀ x ∈ ds, Dok n x := by
  cases h with
  | none => exact .inl ⟨rfl, rfl, rfl⟩
  | bool b => exact .inl ⟨rfl, rfl, rfl⟩
  | int i => exact .inl ⟨rfl, rfl, rfl⟩
  | str h => exact .inl ⟨rfl, shaped_str h, h⟩
  | @list _ ds hl a =>
    refine .inr ⟨ds, ⟨rfl, false, fun {K} H v hd => ?_⟩, Nat.le_trans hl (by decide), a⟩
    cases hd with
    | lst s al => exact ⟨_, _, rfl, s, al⟩
  | @listB _ ds hl a =>
    refine .inr ⟨ds, ⟨rfl, false, fun {K} H v hd => ?_⟩, hl, a⟩
    cases hd with
    | lst s al => exact ⟨_, _, rfl, s, al⟩
  | @tuple _ ds hl a =>
    refine .inr ⟨ds, ⟨rfl, true, fun {K} H v hd => ?_⟩, Nat.le_trans hl (by decide), a⟩
    cases hd with
    | tup s al => exact ⟨_, _, rfl, s, al⟩
theorem sqb_or {K : PySem.W.Frag} {b : Bool} {H : Hp} {a : Addr} {xs : List V} (h : SqB K b H a xs) : SqL K H a xs ∨ SqT K H a xs := by
  cases b with
  | true => exact .inr h
  | false => exact .inl h
theorem Dok.d3 (t : T3i) : Dok 1 (Ss.d3 t) := .tuple (by show 3 ≤ 1000; decide) fun d hd => by
  have : d = .int t.1 ∨ d = .int t.2.1 ∨ d = .int t.2.2 := by simpa using hd
  rcases this with rfl | rfl | rfl <;> exact .int _
end Ss

namespace Ss
open PySem PySem.Spec L2
theorem eqv_d3 (a b : T3i) : (d3 a).eqv (d3 b) = decide (a = b) := by
  obtain ⟨x, y, z⟩ := a
  obtain ⟨x', y', z'⟩ := b
  show ((decide (x = x')) && ((decide (y = y')) && ((decide (z = z')) && true))) = _
  by_cases h1 : x = x' <;> by_cases h2 : y = y' <;> by_cases h3 : z = z' <;> simp [h1, h2, h3]
section
variable {X : Cx}
end
theorem All3.snoc {K : PySem.W.Frag} {H : Hp} {v : V} {t : T3i} (z : T3 K H v t) : ∀ {vs : List V} {ts : List T3i}, All3 K H vs ts → All3 K H (vs ++ [v]) (ts ++ [t])
  | _, _, .nil => .cons z .nil
  | _, _, .cons a b => .cons a (All3.snoc z b)


theorem step_zero (p w : T3i) : stepF p w 0 = p := by
  obtain ⟨x, y, z⟩ := p
  unfold stepF
  simp
theorem step_step (p w : T3i) (m n : Int) : stepF (stepF p w m) w n = stepF p w (m + n) := by
  unfold stepF
  refine Prod.ext ?_ (Prod.ext ?_ ?_) <;> dsimp only <;> rw [Int.add_mul] <;> omega
theorem in_between {s w p : T3i} {m n : Int} (hp : inF s p = true) (hm : 0 ≤ n) (hn : n ≤ m) (hw : IsWay w) (h : inF s (stepF p w m) = true) : inF s (stepF p w n) = true := by
  refine inF_true fun i hi => ?_
  have h1 := inF_iff.mp hp i hi
  have h2 := inF_iff.mp h i hi
  unfold inAt at h1 h2 ⊢
  rw [step_get] at h2 ⊢
  have h4 := small_get hw.small hi
  have : get3 w i = -3 ∨ get3 w i = -2 ∨ get3 w i = -1 ∨ get3 w i = 0 ∨ get3 w i = 1 ∨ get3 w i = 2 ∨ get3 w i = 3 := by omega
  rcases this with e | e | e | e | e | e | e <;> rw [e] at h2 ⊢ <;> omega

end Ss
namespace Ss
open PySem L2

theorem T3.put {K : PySem.W.Frag} {H : Hp} {l : Addr} {xs ys : List V} {v : V} {t : T3i} (hl : H l = some (.lst xs)) (h : T3 K H v t) : T3 K (upd H l (.lst ys)) v t := let ⟨p, e, q⟩ := h; ⟨p, e, by rw [upd_ne (fun e => by subst e; rw [hl] at q; cases q)]; exact q⟩
theorem All3.put {K : PySem.W.Frag} {H : Hp} {l : Addr} {xs ys : List V} (hl : H l = some (.lst xs)) : ∀ {vs : List V} {ts : List T3i}, All3 K H vs ts → All3 K (upd H l (.lst ys)) vs ts
  | _, _, .nil => .nil
  | _, _, .cons a b => .cons (a.put hl) (All3.put hl b)

end Ss

namespace L2
open PySem PySem.Spec PyProof.Rows
section
variable {X : Cx} {pos : Pos}

end
end L2
namespace Ss
open PySem L2

def firstF (w n f : T3i) : Int := if w.1 ≠ 0 then (f.1 - n.1).fdiv w.1 else if w.2.1 ≠ 0 then (f.2.1 - n.2.1).fdiv w.2.1 else (f.2.2 - n.2.2).fdiv w.2.2
def hidesF (w n f : T3i) : Bool := decide (1 ≤ firstF w n f ∧ stepF n w (firstF w n f) = f)
def r3 : List Int := [-1, 0, 1]
theorem mul_fdiv (m w : Int) (h : w ≠ 0) : (m * w).fdiv w = m := Int.mul_fdiv_cancel m h

theorem first_step {w n : T3i} (hw : IsWay w) (m : Int) : firstF w n (stepF n w m) = m := by
  unfold firstF stepF
  dsimp only
  have e : ∀ a b : Int, a + m * b - a = m * b := fun a b => by omega
  rw [e, e, e]
  by_cases h1 : w.1 = 0
  · by_cases h2 : w.2.1 = 0
    · have h3 : ¬ w.2.2 = 0 := fun z => hw.nz ⟨h1, h2, z⟩
      rw [if_neg (by simpa using h1), if_neg (by simpa using h2), mul_fdiv _ _ h3]
    · rw [if_neg (by simpa using h1), if_pos h2, mul_fdiv _ _ h2]
  · rw [if_pos h1, mul_fdiv _ _ h1]
end Ss
namespace L2
end L2

namespace L2
open PySem PySem.Spec PyProof.Rows
section
variable {prog : Program} {w : World} {A : Around} {R : Result → Shared → Prop} {s : Shared} {elt t0 i0 t1 i1 t2 i2 : Expr} {ifs0 ifs1 ifs2 : List Expr} {scope : Scope} {pos : Pos} {it acc : Value} {env : Env}

end
section
variable {X : Cx}

end
end L2

namespace Ss
open PySem L2

def rowZ (x y : Int) (n : Nat) : List T3i := (List.range n).map fun (c : Nat) => (x, y, (c : Int))
def rowY (x : Int) (s2 n : Nat) : List T3i := (List.range n).flatMap fun (b : Nat) => rowZ x (b : Int) s2
def rowX (s1 s2 n : Nat) : List T3i := (List.range n).flatMap fun (a : Nat) => rowY (a : Int) s2 s1
def allF (s : T3i) : List T3i := rowX s.2.1.toNat s.2.2.toNat s.1.toNat
theorem lt3_iff {a b : T3i} : lt3 a b = true ↔ a.1 < b.1 ∨ (a.1 = b.1 ∧ (a.2.1 < b.2.1 ∨ (a.2.1 = b.2.1 ∧ a.2.2 < b.2.2))) := by
  unfold lt3
  obtain ⟨x, y, z⟩ := a
  obtain ⟨x', y', z'⟩ := b
  simp only [HT.lexLt]
  by_cases h1 : x = x'
  · by_cases h2 : y = y'
    · by_cases h3 : z = z'
      · subst h1 h2 h3; simp
      · simp [h1, h2, h3]
    · simp [h1, h2]
  · simp [h1]
def Rise (l : List T3i) : Prop := l.Pairwise fun a b => lt3 a b = true
theorem lt3_irr (a : T3i) : ¬ lt3 a a = true := by rw [lt3_iff]; omega
theorem lt3_trans {a b c : T3i} (h1 : lt3 a b = true) (h2 : lt3 b c = true) : lt3 a c = true := by
  rw [lt3_iff] at *; omega
theorem lt3_tri (a b : T3i) : lt3 a b = true ∨ a = b ∨ lt3 b a = true := by
  obtain ⟨x, y, z⟩ := a
  obtain ⟨x', y', z'⟩ := b
  rw [lt3_iff, lt3_iff, Prod.mk.injEq, Prod.mk.injEq]
  dsimp only
  omega
theorem Rise.filter {l : List T3i} (h : Rise l) (f : T3i → Bool) : Rise (l.filter f) := List.Pairwise.filter f h
theorem All3.append {K : PySem.W.Frag} {H : Hp} : ∀ {vs vs' : List V} {ts ts' : List T3i}, All3 K H vs ts → All3 K H vs' ts' → All3 K H (vs ++ vs') (ts ++ ts')
  | _, _, _, _, .nil, h => h
  | _, _, _, _, .cons a b, h => .cons a (All3.append b h)
end Ss
namespace L2
open PySem

end L2

namespace L2
open PySem PySem.Spec PyProof.Rows
section
variable {prog : Program} {w : World} {A : Around} {E : Value → Shared → Prop} {s : Shared}

end
end L2

namespace Ss
open PySem PySem.Spec PyProof.Rows L2

def Tu (h : Heap) : List T3i → List Value → Prop := Paired fun (t : T3i) (u : Value) => ∃ p a b c, u = .ref p ∧ IsTup h p #[.int t.1 a, .int t.2.1 b, .int t.2.2 c]
def shI : Nat → Bool := fun _ => false
theorem Tu.keep {h h' : Heap} (k : ∀ b o, h.get? b = some o → h'.get? b = some o) {ts : List T3i} {us : List Value} (q : Tu h ts us) : Tu h' ts us :=
  Paired.mapP q fun t u ⟨p, a, b, c, e, o, ho, x⟩ => ⟨p, a, b, c, e, o, k _ _ ho, x⟩
theorem Tu.tups {h : Heap} : ∀ {ts : List T3i} {us : List Value}, Tu h ts us → ∃ fs, TupsOf h shI us fs
  | _, _, .nil => ⟨_, .nil⟩
  | _, _, .cons ⟨p, a, b, c, e, o, ho, hc, n, hd⟩ r => by
    obtain ⟨fs, q⟩ := Tu.tups r
    exact ⟨_, .cons ⟨p, o, _, n, e, ho, hc, hd, rfl, fun _ => ⟨_, _, rfl⟩, fun z => by cases z⟩ q⟩
def k3 (t : T3i) : List (Int ⊕ List Nat) := [.inl t.1, .inl t.2.1, .inl t.2.2]
end Ss

namespace Ss
open PySem PySem.Spec PyProof.Rows L2

def TH (H : Hp) (t : T3i) (u : Value) : Prop := ∃ p, u = .ref p ∧ H p = some (.tup (l3 t))
section
variable {X : Cx}
end
end Ss

namespace Ss
open PySem PySem.Spec L2
def key3 (t : T3i) : List Key := [.inl t.1, .inl t.2.1, .inl t.2.2]
theorem key3_inj {a b : T3i} (h : key3 a = key3 b) : a = b := by
  obtain ⟨x, y, z⟩ := a
  obtain ⟨x', y', z'⟩ := b
  unfold key3 at h
  simp at h
  obtain ⟨rfl, rfl, rfl⟩ := h
  rfl
def DL (K : PySem.W.Frag) (H : Hp) : List (List Key × V) → List (T3i × T3i) → Prop := Paired fun kv dg => kv.1 = key3 dg.1 ∧ T3 K H kv.2 dg.2
theorem DL.mono {K : PySem.W.Frag} {H H' : Hp} (s : Same H H') {kvs : List (List Key × V)} {L : List (T3i × T3i)} (h : DL K H kvs L) : DL K H' kvs L := Paired.mapP h fun _ _ z => ⟨z.1, z.2.mono s⟩
def putL (L : List (T3i × T3i)) (d g : T3i) : List (T3i × T3i) := if (L.any fun dg => decide (dg.1 = d)) = true then L.map (fun dg => if dg.1 = d then (dg.1, g) else dg) else L ++ [(d, g)]
theorem DL.any {K : PySem.W.Frag} {H : Hp} (d : T3i) : ∀ {kvs : List (List Key × V)} {L : List (T3i × T3i)}, DL K H kvs L → (kvs.any fun kv => decide (kv.1 = key3 d)) = L.any fun dg => decide (dg.1 = d)
  | _, _, .nil => rfl
  | _, _, .cons (a := p) (b := q) r t => by
    rw [List.any_cons, List.any_cons, DL.any d t]
    congr 1
    by_cases e : q.1 = d
    · rw [decide_eq_true e, decide_eq_true (by rw [r.1, e])]
    · rw [decide_eq_false e, decide_eq_false fun z => e (key3_inj (r.1.symm.trans z))]
theorem DL.none {K : PySem.W.Frag} {H : Hp} {kvs : List (List Key × V)} {L : List (T3i × T3i)} {d : T3i} (h : DL K H kvs L) (e : valV kvs (key3 d) = none) : ∀ dg ∈ L, dg.1 ≠ d := by
  have := valV_any (key3 d) kvs
  rw [e, h.any] at this
  intro dg hm z
  have : (L.any fun dg => decide (dg.1 = d)) = true := List.any_eq_true.mpr ⟨dg, hm, decide_eq_true z⟩
  simp_all
theorem DL.some {K : PySem.W.Frag} {H : Hp} {d : T3i} {v : V} : ∀ {kvs : List (List Key × V)} {L : List (T3i × T3i)}, DL K H kvs L → valV kvs (key3 d) = some v → ∃ g, (d, g) ∈ L ∧ T3 K H v g
  | _, _, .nil, e => by cases e
  | _, _, .cons (a := p) (b := q) r t, e => by
    by_cases z : p.1 = key3 d
    · rw [valV_pos z] at e
      cases e
      have : q.1 = d := key3_inj (r.1.symm.trans z)
      exact ⟨q.2, by rw [← this]; exact List.mem_cons_self, r.2⟩
    · rw [valV_neg z] at e
      obtain ⟨g, h1, h2⟩ := DL.some t e
      exact ⟨g, List.mem_cons_of_mem _ h1, h2⟩
theorem DL.snoc {K : PySem.W.Frag} {H : Hp} {p : List Key × V} {q : T3i × T3i} (z : p.1 = key3 q.1 ∧ T3 K H p.2 q.2) : ∀ {kvs : List (List Key × V)} {L : List (T3i × T3i)}, DL K H kvs L → DL K H (kvs ++ [p]) (L ++ [q])
  | _, _, .nil => .cons z .nil
  | _, _, .cons a b => .cons a (DL.snoc z b)
theorem DL.map {K : PySem.W.Frag} {H : Hp} {d g : T3i} {v : V} (hv : T3 K H v g) : ∀ {kvs : List (List Key × V)} {L : List (T3i × T3i)}, DL K H kvs L → DL K H (kvs.map fun kv => if kv.1 = key3 d then (kv.1, v) else kv) (L.map fun dg => if dg.1 = d then (dg.1, g) else dg)
  | _, _, .nil => .nil
  | _, _, .cons (a := p) (b := q) r t => by
    refine .cons ?_ (DL.map hv t)
    dsimp only
    by_cases e : q.1 = d
    · have e' : p.1 = key3 d := by rw [r.1, e]
      rw [if_pos e', if_pos e]; exact ⟨r.1, hv⟩
    · have e' : ¬ p.1 = key3 d := fun z => e (key3_inj (r.1.symm.trans z))
      rw [if_neg e', if_neg e]; exact r
theorem DL.put {K : PySem.W.Frag} {H : Hp} {d g : T3i} {v : V} {kvs : List (List Key × V)} {L : List (T3i × T3i)} (h : DL K H kvs L) (hv : T3 K H v g) : DL K H (putK kvs (key3 d) v) (putL L d g) := by
  unfold putK putL
  rw [h.any]
  split
  · exact DL.map hv h
  · exact DL.snoc ⟨rfl, hv⟩ h
theorem DL.vals {K : PySem.W.Frag} {H : Hp} : ∀ {kvs : List (List Key × V)} {L : List (T3i × T3i)}, DL K H kvs L → All3 K H (kvs.map (·.2)) (L.map (·.2))
  | _, _, .nil => .nil
  | _, _, .cons r t => .cons r.2 (DL.vals t)
theorem mem_putL {L : List (T3i × T3i)} {d g : T3i} {x : T3i × T3i} (h : x ∈ putL L d g) : x = (d, g) ∨ (x ∈ L ∧ x.1 ≠ d) := by
  unfold putL at h
  split at h
  · obtain ⟨y, hy, e⟩ := List.mem_map.mp h
    by_cases z : y.1 = d
    · rw [if_pos z] at e; subst e; exact .inl (by rw [z])
    · rw [if_neg z] at e; subst e; exact .inr ⟨hy, z⟩
  · rename_i hn
    rcases List.mem_append.mp h with h | h
    · refine .inr ⟨h, fun z => hn ?_⟩
      exact List.any_eq_true.mpr ⟨x, h, decide_eq_true z⟩
    · exact .inl (by simpa using h)
theorem putL_has (L : List (T3i × T3i)) (d g : T3i) : (d, g) ∈ putL L d g := by
  unfold putL
  split
  · rename_i hy
    obtain ⟨y, hm, e⟩ := List.any_eq_true.mp hy
    have e : y.1 = d := of_decide_eq_true e
    exact List.mem_map.mpr ⟨y, hm, by rw [if_pos e, e]⟩
  · exact List.mem_append_right _ (by simp)
theorem putL_keep {L : List (T3i × T3i)} {d g : T3i} {x : T3i × T3i} (h : x ∈ L) (hd : x.1 ≠ d) : x ∈ putL L d g := by
  unfold putL
  split
  · exact List.mem_map.mpr ⟨x, h, by rw [if_neg hd]⟩
  · exact List.mem_append_left _ h
theorem putL_keys (L : List (T3i × T3i)) (d g : T3i) : (putL L d g).map (·.1) = L.map (·.1) ∨ ((∀ x ∈ L, x.1 ≠ d) ∧ (putL L d g).map (·.1) = L.map (·.1) ++ [d]) := by
  unfold putL
  split
  · left
    rw [List.map_map]
    refine List.map_congr_left fun x _ => ?_
    show (if x.1 = d then (x.1, g) else x).1 = x.1
    split <;> rfl
  · rename_i hn
    right
    exact ⟨fun x hx z => hn (List.any_eq_true.mpr ⟨x, hx, decide_eq_true z⟩), by rw [List.map_append]; rfl⟩
theorem hides_iff {w a b : T3i} (hw : IsWay w) : hidesF w a b = true ↔ ∃ m : Int, 1 ≤ m ∧ stepF a w m = b := by
  unfold hidesF
  rw [decide_eq_true_iff]
  constructor
  · rintro ⟨h1, h2⟩; exact ⟨_, h1, h2⟩
  · rintro ⟨m, h1, h2⟩
    subst h2
    rw [first_step hw]
    exact ⟨h1, rfl⟩
theorem at_depth (s w p : T3i) : p = stepF (doorF s w p) w (depthF s w p) := (door_back s w p).symm
theorem step_inj {w p : T3i} (hw : IsWay w) {m n : Int} (h : stepF p w m = stepF p w n) : m = n := by
  have := first_step (n := p) hw m
  rw [h, first_step hw] at this
  exact this.symm

theorem door_step {s w d : T3i} (hw : IsWay w) (hd : inF s d = true) (hb : inF s (stepF d w (-1)) = false) {m : Int} (h0 : 0 ≤ m) (hm : inF s (stepF d w m) = true) : doorF s w (stepF d w m) = d ∧ depthF s w (stepF d w m) = m := by
  have h1 := door_in hw hm
  have h2 := door_out hw hm
  have hk := (depthF_spec hw hm).1
  unfold doorF at h1 h2 ⊢
  generalize depthF s w (stepF d w m) = k at *
  rw [step_step] at h1 h2
  rw [step_step] at h2
  have e : k = m := by
    rcases Int.lt_trichotomy k m with z | z | z
    · exfalso
      have := in_between (s := s) (w := w) (p := d) (m := m + -k) (n := m + -k + -1) hd (by omega) (by omega) hw h1
      rw [show m + -k + -1 = m + (-k + -1) by omega, h2] at this; cases this
    · exact z
    · exfalso
      have e1 : stepF d w (-1) = stepF (stepF d w (m + -k)) w (k - m - 1) := by rw [step_step]; congr 1; omega
      have e2 : stepF (stepF d w (m + -k)) w (k - m) = d := by rw [step_step]; rw [show m + -k + (k - m) = 0 by omega, step_zero]
      have := in_between (s := s) (w := w) (p := stepF d w (m + -k)) (m := k - m) (n := k - m - 1) h1 (by omega) (by omega) hw (by rw [e2]; exact hd)
      rw [← e1, hb] at this; cases this
  subst e
  rw [step_step, show k + -k = 0 by omega, step_zero]
  exact ⟨rfl, rfl⟩
theorem hides_depth {s w a b : T3i} (hw : IsWay w) (hd : doorF s w a = doorF s w b) : hidesF w a b = true ↔ depthF s w a < depthF s w b := by
  rw [hides_iff hw]
  have ea := at_depth s w a
  have eb := at_depth s w b
  constructor
  · rintro ⟨m, h1, h2⟩
    have eb' : b = stepF (doorF s w a) w (depthF s w b) := by rw [hd]; exact eb
    have h3 : stepF (doorF s w a) w (depthF s w a + m) = stepF (doorF s w a) w (depthF s w b) := by
      rw [← step_step, door_back, h2]; exact eb'
    have := step_inj hw h3
    omega
  · intro h
    refine ⟨depthF s w b - depthF s w a, by omega, ?_⟩
    have : stepF (stepF (doorF s w a) w (depthF s w a)) w (depthF s w b - depthF s w a) = b := by
      rw [step_step, hd, show depthF s w a + (depthF s w b - depthF s w a) = depthF s w b by omega]
      exact eb.symm
    rwa [← ea] at this
theorem same_place {s w a b : T3i} (h1 : doorF s w a = doorF s w b) (h2 : depthF s w a = depthF s w b) : a = b := by
  rw [at_depth s w a, at_depth s w b, h1, h2]

def Seen (s w : T3i) (ts : List T3i) (x : T3i) : Prop := x ∈ ts ∧ ∀ g ∈ ts, doorF s w g = doorF s w x → depthF s w x ≤ depthF s w g
structure Near (s w : T3i) (L : List (T3i × T3i)) (gs : List T3i) : Prop where
  nd : (L.map (·.1)).Nodup
  ok : ∀ x ∈ L, doorF s w x.2 = x.1 ∧ Seen s w gs x.2
  all : ∀ g ∈ gs, ∃ g0, (doorF s w g, g0) ∈ L
theorem Near.nil (s w : T3i) : Near s w [] [] := ⟨List.nodup_nil, fun x h => by (cases h), fun g h => by (cases h)⟩
theorem Near.keep {s w : T3i} {L : List (T3i × T3i)} {gs : List T3i} {g g0 : T3i} (h : Near s w L gs) (hm : (doorF s w g, g0) ∈ L) (hn : ¬ depthF s w g < depthF s w g0) : Near s w L (gs ++ [g]) := by
  refine ⟨h.nd, fun x hx => ⟨(h.ok x hx).1, List.mem_append_left _ (h.ok x hx).2.1, fun g' hg' e => ?_⟩, fun g' hg' => ?_⟩
  · rcases List.mem_append.mp hg' with z | z
    · exact (h.ok x hx).2.2 g' z e
    · have z : g' = g := by simpa using z
      subst z
      have e1 : x.1 = doorF s w g' := by rw [← (h.ok x hx).1]; exact e.symm
      have : x.2 = g0 := by
        obtain ⟨h3, h4⟩ := h.ok x hx
        obtain ⟨h5, h6⟩ := h.ok _ hm
        have h5 : doorF s w g0 = doorF s w g' := h5
        have h6 : Seen s w gs g0 := h6
        have a1 := h4.2 g0 h6.1 (h5.trans e)
        have a2 := h6.2 x.2 h4.1 (e.symm.trans h5.symm)
        exact same_place (e.symm.trans h5.symm) (by omega)
      rw [this]; omega
  · rcases List.mem_append.mp hg' with z | z
    · exact h.all g' z
    · have z : g' = g := by simpa using z
      subst z; exact ⟨g0, hm⟩
theorem Near.put {s w : T3i} {L : List (T3i × T3i)} {gs : List T3i} {g : T3i} (h : Near s w L gs) (hn : ∀ g0, (doorF s w g, g0) ∈ L → depthF s w g < depthF s w g0) : Near s w (putL L (doorF s w g) g) (gs ++ [g]) := by
  refine ⟨?_, fun x hx => ?_, fun g' hg' => ?_⟩
  · rcases putL_keys L (doorF s w g) g with e | ⟨e1, e⟩
    · rw [e]; exact h.nd
    · rw [e]
      refine List.nodup_append.mpr ⟨h.nd, by simp, fun a ha b hb => ?_⟩
      obtain ⟨x, hx, rfl⟩ := List.mem_map.mp ha
      have hb : b = doorF s w g := by simpa using hb
      rw [hb]; exact e1 x hx
  · rcases mem_putL hx with rfl | ⟨hx, hd⟩
    · refine ⟨rfl, List.mem_append_right _ (by simp), fun g' hg' e => ?_⟩
      rcases List.mem_append.mp hg' with z | z
      · have e : doorF s w g' = doorF s w g := e
        obtain ⟨g0, hm⟩ := h.all g' z
        rw [e] at hm
        have a1 := hn g0 hm
        have a2 := (h.ok _ hm).2.2 g' z (e.trans (h.ok _ hm).1.symm)
        show depthF s w g ≤ depthF s w g'
        have a2 : depthF s w g0 ≤ depthF s w g' := a2
        omega
      · have z : g' = g := by simpa using z
        subst z; exact Int.le_refl _
    · obtain ⟨h1, h2⟩ := h.ok x hx
      refine ⟨h1, List.mem_append_left _ h2.1, fun g' hg' e => ?_⟩
      rcases List.mem_append.mp hg' with z | z
      · exact h2.2 g' z e
      · have z : g' = g := by simpa using z
        subst z
        exact absurd (h1.symm.trans e.symm) hd
  · rcases List.mem_append.mp hg' with z | z
    · obtain ⟨g0, hm⟩ := h.all g' z
      by_cases e : doorF s w g' = doorF s w g
      · rw [e]; exact ⟨g, putL_has _ _ _⟩
      · exact ⟨g0, putL_keep hm e⟩
    · have z : g' = g := by simpa using z
      subst z; exact ⟨g', putL_has _ _ _⟩
theorem Near.mem {s w : T3i} {L : List (T3i × T3i)} {gs : List T3i} (h : Near s w L gs) (x : T3i) : x ∈ L.map (·.2) ↔ Seen s w gs x := by
  constructor
  · intro hx
    obtain ⟨y, hy, rfl⟩ := List.mem_map.mp hx
    exact (h.ok y hy).2
  · intro hx
    obtain ⟨g0, hm⟩ := h.all x hx.1
    obtain ⟨h1, h2⟩ := h.ok _ hm
    have h1 : doorF s w g0 = doorF s w x := h1
    have a1 := hx.2 g0 h2.1 h1
    have a2 := h2.2 x hx.1 h1.symm
    have : x = g0 := same_place h1.symm (by have a2 : depthF s w g0 ≤ depthF s w x := a2; omega)
    rw [this]
    exact List.mem_map.mpr ⟨_, hm, rfl⟩
end Ss
namespace Ss
open PySem PySem.Spec L2
def less (ts : List T3i) (g : T3i) : List T3i := ts.filter fun t => !decide (t = g)
theorem mem_less {ts : List T3i} {g x : T3i} : x ∈ less ts g ↔ x ∈ ts ∧ x ≠ g := by
  unfold less
  rw [List.mem_filter]
  simp
section
variable {s w g : T3i} {ts : List T3i}
end

end Ss
namespace Ss
open PySem L2
theorem nodup_len : ∀ {l m : List T3i}, l.Nodup → (∀ x ∈ l, x ∈ m) → l.length ≤ m.length
  | [], _, _, _ => Nat.zero_le _
  | a :: l, m, h, hs => by
    obtain ⟨h1, h2⟩ := List.nodup_cons.mp h
    have ha := hs a List.mem_cons_self
    have := nodup_len (l := l) (m := m.erase a) h2 fun x hx => (List.mem_erase_of_ne (fun e => h1 (by rw [← e]; exact hx))).mpr (hs x (List.mem_cons_of_mem _ hx))
    rw [List.length_erase_of_mem ha] at this
    have := List.length_pos_of_mem ha
    show l.length + 1 ≤ _
    omega
end Ss

namespace Ss
open PySem PySem.Spec L2

def Mk (H : Hp) (d : Addr) (ts : List T3i) : Prop := ∃ kvs : List (List Key × V), H d = some (.dT kvs) ∧ (∀ t, (valV kvs (key3 t)).isSome = decide (t ∈ ts)) ∧ kvs.length ≤ ts.length ∧ ∀ p ∈ kvs, ∃ t ∈ ts, p.1 = key3 t
theorem Mk.mono {H H' : Hp} {d : Addr} {ts : List T3i} (s : Same H H') (h : Mk H d ts) : Mk H' d ts := let ⟨kvs, h1, h2⟩ := h; ⟨kvs, s _ _ h1, h2⟩

end Ss
namespace Ss
open PySem L2
end Ss
namespace Ss
open PySem L2
end Ss

namespace L2
open PySem PySem.Spec PyProof.Rows

section
variable {P : Program} {w : World} {K : PySem.W.Frag} {tg : Expr} {d : Addr} {o : Obj} {es : Array DictEntry} {ep : Nat}
end
section
variable {X : Cx} {tg e : Expr} {td : TE} {apos cpos : Pos}
end
end L2
namespace Ss
open PySem PySem.Spec L2

section
variable {a b c : Int → Bool}
end
def doorsF (s w : T3i) : List T3i := (allF s).filter fun p => decide (depthF s w p = 0)
end Ss
namespace Ss
open PySem PySem.Spec L2

section
variable {s w : T3i}
end
end Ss

namespace L2
open PySem PySem.Spec PyProof.Rows

def Itb (K : PySem.W.Frag) (t : Bool) (a : Addr) : It := match t with
  | true => Itt K a
  | false => Itl K a
section
variable {X : Cx} {tg e : Expr} {te : TE}
end
section
variable {K : PySem.W.Frag} {t : Bool} {a : Addr} {H H' : Hp} {xs : List V} {i : Nat} {v : V}
theorem sq_go (h : SqB K t H a xs) (l : i < xs.length) : (Itb K t a).go i H := by
  cases t with
  | true => exact ⟨xs, xs[i], h, by simp [l]⟩
  | false => exact ⟨xs, xs[i], h, by simp [l]⟩
theorem sq_stop (h : SqB K t H a xs) (l : xs.length ≤ i) : (Itb K t a).stop i H := by
  cases t with
  | true => exact ⟨xs, h, l⟩
  | false => exact ⟨xs, h, l⟩
theorem sq_yld (h : SqB K t H a xs) (y : (Itb K t a).yld i H v H') : H' = H ∧ xs[i]? = some v := by
  cases t with
  | true => obtain ⟨e, z⟩ := y; exact ⟨e, z xs h⟩
  | false => obtain ⟨e, z⟩ := y; exact ⟨e, z xs h⟩
end

section
variable {X : Cx} {K : PySem.W.Frag}
end
end L2

namespace Ss
open PySem PySem.Spec PyProof.Rows L2

theorem DokAll.lay {n : Nat} : ∀ {ds : List PyData}, (∀ d ∈ ds, Dok n d) → PyData.canLayAll0 ds = true
  | [], _ => rfl
  | d :: r, h => by
    show (d.canLay0 && PyData.canLayAll0 r) = true
    rw [(h d (by simp)).lay.1, DokAll.lay fun x hx => h x (by simp [hx])]
    rfl
def rInD (K : PySem.W.Frag) (neg : Bool) : R2 := fun x y H Q => ∃ (p : Addr) (xs : List V) (ds : List PyData) (d : PyData) (n : Nat), y = .ref p ∧ SqL K H p xs ∧ DpAll K H xs ds ∧ Dp K H x d ∧ (∀ e ∈ ds, Dok n e) ∧ Dok n d ∧ n ≤ 60 ∧ Q (.bl (if neg then !(ds.any fun y => y.eqv d) else ds.any fun y => y.eqv d)) H
section
variable {X : Cx}
theorem op_notInD (hu : X.A.units + 64 < cLine) : OpR X (compareOp .NotIn) (rInD X.K true) := by
  intro pins s σ H x y v u Q I rx ry h
  obtain ⟨p, xs, ds, d, n, rfl, hl, ha, hd, ok, okd, hn, q⟩ := h
  obtain ⟨as, r1⟩ := Dp.reads I (.list ds) (.ref p) u (Dp.lst hl ha) ry
  obtain ⟨bs, r2⟩ := Dp.reads I d x v hd rx
  refine SeqAt.notIn_list_reads r1 r2 (DokAll.lay ok) okd.lay.1 ?_ ⟨.bl _, H, I, rfl, q⟩
  have := okd.lay.2
  omega

def rIndexD (K : PySem.W.Frag) : V → List V → Hp → VK → Prop := fun x vs H Q => ∃ (p : Addr) (xs : List V) (y : V) (ds : List PyData) (d : PyData) (n j : Nat), x = .ref p ∧ vs = [y] ∧ SqL K H p xs ∧ DpAll K H xs ds ∧ Dp K H y d ∧ (∀ e ∈ ds, Dok n e) ∧ Dok n d ∧ n ≤ 60 ∧ (∃ e, ds[j]? = some e ∧ e.eqv d = true) ∧ (∀ (m : Nat) e, m < j → ds[m]? = some e → e.eqv d = false) ∧ Q (.int (j : Nat)) H
theorem mt_indexD (hu : X.A.units + 64 < cLine) : MtR X "list.index" (rIndexD X.K) := by
  intro pins s σ H x vs v us Q I rx rxs h
  obtain ⟨p, xs, y, ds, d, n, j, rfl, rfl, hl, ha, hd, ok, okd, hn, ⟨e, he, hee⟩, hno, q⟩ := h
  cases rx
  obtain ⟨uy, _, rfl, ry, r0⟩ := vals_cons rxs
  cases r0
  obtain ⟨its, rv, ⟨⟨cls, dd, data, sl⟩, m, ho, hc, hdn, hdt⟩, hlen⟩ := I.list hl
  simp only at hc hdt
  subst hc hdt
  obtain ⟨as, rs⟩ := Dp.readsAll I ds xs its ha rv
  obtain ⟨bs, r2⟩ := Dp.reads I d y uy hd ry
  have hmap := SeqAt.readsAll_map ds its as (DokAll.lay ok) rs
  have at_ : ∀ (i : Nat) (hi : i < its.length) (e' : PyData), ds[i]? = some e' → SeqAt.readOf s.heap its[i] = e' := fun i hi e' z => by
    rw [← hmap, List.getElem?_map, List.getElem?_eq_getElem hi] at z
    exact Option.some.inj z
  have hjl : j < its.length := by
    rw [← rv.length, ha.length]
    exact (List.getElem?_eq_some_iff.mp he).1
  have hsl := sizeLine_eq
  have hvl := rv.length
  refine call_meets PySem.F.slot_list_index ⟨_, ho, rfl⟩ PySem.F.entry_list_index (PySem.F.args_list_index_2 _ _)
    (SeqAt.list_indexAt p its.toArray m dd sl uy (fun u => PyData.eqv (SeqAt.readOf s.heap u) d) j (by simpa using hjl) (by omega) ?_ ?_) ⟨ho, SeqAt.items_eqAt (by simpa using rs) r2 (DokAll.lay ok) okd.lay.1 ?_, ⟨.int j, H, I.tok _, ⟨_, rfl⟩, q⟩⟩
  · rw [show its.toArray[j]'(by simpa using hjl) = its[j] by simp, at_ j hjl e he]
    exact hee
  · intro i hi hij
    have hi' : i < its.length := by simpa using hi
    rw [show its.toArray[i] = its[i] by simp]
    cases z : ds[i]? with
    | none =>
      have := List.getElem?_eq_none_iff.mp z
      have := ha.length
      omega
    | some e' =>
      rw [at_ i hi' e' z]
      exact hno i e' hij z
  · have := okd.lay.2
    omega
end
end Ss
namespace Ss
open PySem PySem.Spec PyProof.Rows L2

section
variable {X : Cx}
end
end Ss
namespace L2
open PySem PySem.Spec PyProof.Rows Ss

end L2
namespace Ss
open PySem PySem.Spec L2

def R3 (K : PySem.W.Frag) (H : Hp) (v : V) (t : T3i) : Prop := T3 K H v t ∨ ∃ p, v = .ref p ∧ H p = some (.lst (l3 t))
theorem R3.mono {K : PySem.W.Frag} {H H' : Hp} {v : V} {t : T3i} (s : Same H H') (h : R3 K H v t) : R3 K H' v t := h.imp (fun h => h.mono s) fun ⟨p, e, q⟩ => ⟨p, e, s _ _ q⟩
inductive AllR (K : PySem.W.Frag) (H : Hp) : List V → List T3i → Prop
  | nil : AllR K H [] []
  | cons {v : V} {vs : List V} {t : T3i} {ts : List T3i} : R3 K H v t → AllR K H vs ts → AllR K H (v :: vs) (t :: ts)
theorem AllR.mono {K : PySem.W.Frag} {H H' : Hp} (e : Same H H') : ∀ {vs : List V} {ts : List T3i}, AllR K H vs ts → AllR K H' vs ts
  | _, _, .nil => .nil
  | _, _, .cons a b => .cons (a.mono e) (AllR.mono e b)
theorem AllR.length {K : PySem.W.Frag} {H : Hp} : ∀ {vs : List V} {ts : List T3i}, AllR K H vs ts → vs.length = ts.length
  | _, _, .nil => rfl
  | _, _, .cons _ b => congrArg (· + 1) (AllR.length b)
theorem AllR.get {K : PySem.W.Frag} {H : Hp} : ∀ {vs : List V} {ts : List T3i} {i : Nat} {v : V}, AllR K H vs ts → vs[i]? = some v → ∃ t, ts[i]? = some t ∧ R3 K H v t
  | _, _, _, _, .nil, e => by simp at e
  | _, _, 0, _, .cons a _, e => by simp at e; subst e; exact ⟨_, rfl, a⟩
  | _, _, i + 1, _, .cons _ b, e => by
    obtain ⟨t, h1, h2⟩ := AllR.get (i := i) b (by simpa using e)
    exact ⟨t, by simpa using h1, h2⟩
theorem AllR.snoc {K : PySem.W.Frag} {H : Hp} {v : V} {t : T3i} (z : R3 K H v t) : ∀ {vs : List V} {ts : List T3i}, AllR K H vs ts → AllR K H (vs ++ [v]) (ts ++ [t])
  | _, _, .nil => .cons z .nil
  | _, _, .cons a b => .cons a (AllR.snoc z b)
end Ss
namespace L2
open PySem PySem.Spec PyProof.Rows Ss

end L2

namespace L2
open PySem PySem.Spec PyProof.Rows


structure SetF (e : Addr) (i : Nat) (v : Value) (h h' : Heap) : Prop where
  size : h'.objs.size = h.objs.size
  off : ∀ b, b ≠ e → h'.get? b = h.get? b
  at_ : ∀ o vs, h.get? e = some o → o.data = .fields vs → ∃ o', h'.get? e = some o' ∧ (o'.cls = o.cls ∧ o'.dict = o.dict) ∧ o'.data = .fields (vs.setIfInBounds i v)
theorem SetF.keeps {h h' : Heap} {e : Addr} {i : Nat} {v : Value} (x : SetF e i v h h') {b : Addr} {o : Obj} (hb : b ≠ e) (q : h.get? b = some o) : h'.get? b = some o := (x.off b hb).trans q



def Still (h : Heap) (T : Addr) : Prop := ∃ o ts, h.get? T = some o ∧ o.data = .fields ts ∧ ts[3]? = some .none

def XHead (h : Heap) (e : Addr) (cls hd : Value) : Prop := ∃ o vs, h.get? e = some o ∧ (o.cls = cls ∧ o.dict = none) ∧ o.data = .fields vs ∧ vs[1]? = some hd
structure Fled (S : List Addr) (e : Addr) (old : Option Addr) (cls : Value) (T : Addr) (h h' : Heap) : Prop where
  keep : ∀ b o, b ∉ S → b ≠ e → old ≠ some b → h.get? b = some o → h'.get? b = some o
  slot : ∀ b o, b ≠ e → old ≠ some b → h.get? b = some o → ∃ sl, h'.get? b = some { o with slots := sl }
  new : h.objs.size ≤ T
  obj : XHead h' e cls (.ref T)
  still : Still h' T
  prev : ∀ t, old = some t → Still h' t

section
variable {M : Model} {A : Around} {E : Value → Shared → Prop} {s : Shared}
end
end L2

namespace L2
open PySem PySem.Spec PyProof.Rows



def XE (e : Addr) (cls hd : Value) : HO := .ext fun h => XHead h e cls hd
def XT (t : Addr) : HO := .ext fun h => Still h t
section
variable {P : Program} {w : World} {H H' : Hp} {h h' : Heap} {e t a : Addr} {cls hd : Value} {o : HO}
theorem XE.ok (x : XHead h e cls hd) : ObjOk P w H h e (XE e cls hd) :=
  ⟨x, let ⟨o, _, q, _⟩ := x; ⟨o, q⟩, fun _ _ ⟨o, vs, q, r⟩ k => ⟨o, vs, k o q, r⟩⟩
theorem XT.ok (x : Still h t) : ObjOk P w H h t (XT t) :=
  ⟨x, let ⟨o, _, q, _⟩ := x; ⟨o, q⟩, fun _ _ ⟨o, vs, q, r⟩ k => ⟨o, vs, k o q, r⟩⟩
theorem XE.of (x : HOk P w H h) (q : H e = some (XE e cls hd)) : XHead h e cls hd := (show ObjOk P w H h e (XE e cls hd) from x e _ q).1
theorem XT.of (x : HOk P w H h) (q : H t = some (XT t)) : Still h t := (show ObjOk P w H h t (XT t) from x t _ q).1

theorem ObjOk.some (x : ObjOk P w H h a o) : ∃ u, h.get? a = some u := by
  cases o with
  | lst xs => obtain ⟨_, _, _, _, e⟩ := x; exact ⟨_, e⟩
  | tup xs => obtain ⟨_, _, _, o, e, _⟩ := x; exact ⟨_, e⟩
  | dK kvs => obtain ⟨_, _, _, _, o, _, _, e, _⟩ := x; exact ⟨_, e⟩
  | dT kvs => obtain ⟨_, _, _, _, o, _, _, e, _⟩ := x; exact ⟨_, e⟩
  | set S n => obtain ⟨o, _, _, _, e, _⟩ := x; exact ⟨_, e⟩
  | ins C dx fs => obtain ⟨_, _, _, e, _⟩ := x; exact ⟨_, e⟩
  | own y => exact x
  | xd fs => obtain ⟨_, ⟨_, _, _, e, _⟩, _⟩ := x; exact ⟨_, e⟩
  | rng lo hi => obtain ⟨_, _, _, e⟩ := x; exact ⟨_, e⟩
  | frz ob u => obtain ⟨e, _⟩ := x; exact ⟨_, e⟩
  | tbl ps => exact ⟨_, (show h.get? a = Option.some _ from x)⟩
  | met f y => exact ⟨_, (show h.get? a = Option.some _ from x)⟩
  | ext φ => exact x.2.1
theorem HOk.none (x : HOk P w H h) (n : h.get? a = Option.none) : H a = Option.none := by
  cases q : H a with
  | none => rfl
  | some u =>
    obtain ⟨o, e⟩ := (x a u q).some
    rw [n] at e; cases e

theorem Un.fresh {fs : List Addr} (k : ∀ b u, h.get? b = some u → h'.get? b = some u) (n : h.get? a = none) (hn : H a = none) : Un fs [] H (upd H a o) h h' := by
  have ne : ∀ b u, h.get? b = some u → b ≠ a := fun b u q z => by rw [z, n] at q; cases q
  have tr : ∀ b u, H b = some u → b ≠ a := fun b u q z => by rw [z, hn] at q; cases q
  exact ⟨fun b u q _ _ _ => k b u q, fun b u q _ _ _ => ⟨u.slots, k b u q⟩, fun b u q m _ => by rw [upd_ne (ne b u q)]; exact m, fun b u q _ => ⟨u, k b u q⟩, fun b xs q => by rw [upd_ne (tr b _ q)]; exact q, fun b u xs q => by rw [upd_ne (tr b _ q)]; exact q, fun b ps q => ⟨#[], by rw [upd_ne (tr b _ q), q]; simp⟩⟩
end

def Off (e : Addr) (old : Option Addr) (H H' : Hp) : Prop := ∀ b o, H b = some o → b ≠ e → old ≠ some b → H' b = some o
theorem Off.refl {e : Addr} {old : Option Addr} {H : Hp} : Off e old H H := fun _ _ q _ _ => q


section
variable {P : Program} {w : World} {S : List Addr} {ea t' : Addr} {old : Option Addr} {cls : Value} {H : Hp} {h h' : Heap}
end

section
variable {P : Program} {w : World} {K : PySem.W.Frag} {mg : Str → Option Value} {base : Heap} {N : List Str} {qual : Str} {scope : Scope} {f : Addr} {cd : Value} {A : Around} {outer : List Env} {s0 : Shared} {H0 : Hp} {E : XK}

end


abbrev bmV : List Value := [.type "ValueError", .type "Exception", .type "BaseException", .type "object"]
def quietX : List Str := ["__init__", "__getattribute__", "__getattr__", "__class__"]

structure XNs (K : PySem.W.Frag) (C : Addr) (bm : List Value) : Prop where
  obj : ∃ nm q N bs hdct sn sub ab col dd k0 k1 k2 k3 k5, K.lookup C = some (excClassObj nm q C N bs bm hdct sn sub ab col dd k0 k1 k2 k3 k5 "ValueError.__new__") ∧ PySem.W.nsOkIn K N = true ∧ ∀ n ∈ quietX, PySem.W.nsIn K N n = some none

structure XCls (K : PySem.W.Frag) (C : Addr) (bm : List Value) : Prop where
  own : XNs K C bm
  up : bm = bmV ∨ ∃ S, bm = .ref S :: bmV ∧ XNs K S bmV
section
variable {K : PySem.W.Frag} {C C' : Addr} {bm bm' : List Value} {h : Heap}
theorem XCls.has (x : XCls K C bm) : bm.contains (.type "BaseException") = true := by
  rcases x.up with rfl | ⟨S, rfl, _⟩ <;> rfl
theorem XCls.tail (x : XCls K C bm) (X : K.In h) : OwnTail h bmV bm := by
  rcases x.up with rfl | ⟨S, rfl, ⟨nm, q, N, bs, hdct, sn, sub, ab, col, dd, k0, k1, k2, k3, k5, lk, hns, hq⟩⟩
  · exact .base
  · exact .own (X _ _ lk) (.of_isNs (PySem.W.isNs_of_in X hns)) (PySem.W.nsMap_none_of_in X hns (hq _ (by decide))) .base
theorem XNs.mro (x : XNs K C bm) (b : Value) : PySem.W.mroIn K C b = some ((Value.ref C :: bm).contains b) := by
  obtain ⟨nm, q, N, bs, hdct, sn, sub, ab, col, dd, k0, k1, k2, k3, k5, lk, _⟩ := x.obj
  unfold PySem.W.mroIn PySem.W.clsIn
  rw [lk]
  rfl
theorem XCls.lookup {M : Model} {n : Str} {y : Option Value} (x : XCls K C bm) (X : K.In h) (hn : n ∈ quietX) (hB : typeLookup (.type "ValueError") n = pure y) : PySem.W.Looks M h (typeLookup (.ref C) n) y := by
  have hrest : lookupAlong bmV n = pure y := by rw [typeLookup_eq, PySem.F.excBase_ValueError.mroIs] at hB; exact hB
  intro A Q E s k hq
  obtain ⟨hh, g, d, t, os⟩ := s
  obtain ⟨nm, q, N, bs, hdct, sn, sub, ab, col, dd, k0, k1, k2, k3, k5, lk, hns, hx⟩ := x.own.obj
  have X' : K.In hh := X.keeps k
  rw [typeLookup_eq]
  refine wpAny_bind (wpAny_mroOf_exc (X' _ _ lk) ?_)
  rw [lookupAlong_cons]
  refine wpAny_bind (wpAny_classOwn_exc (X' _ _ lk) (.of_isNs (PySem.W.isNs_of_in X' hns)) ?_)
  rw [PySem.W.nsMap_none_of_in X' hns (hx n hn)]
  rcases x.up with rfl | ⟨S, rfl, ⟨nm, q, N, bs, hdct, sn, sub, ab, col, dd, k0, k1, k2, k3, k5, lk, hns, hx⟩⟩
  · rw [hrest]; exact wpAny_pure hq
  · rw [lookupAlong_cons]
    refine wpAny_bind (wpAny_classOwn_exc (X' _ _ lk) (.of_isNs (PySem.W.isNs_of_in X' hns)) ?_)
    rw [PySem.W.nsMap_none_of_in X' hns (hx n hn), hrest]
    exact wpAny_pure hq
end
section
variable {X : Cx} {x : Str} {np cpos pos : Pos} {e : Expr} {es : List Expr} {t : TA} {C : Addr} {bm : List Value} {E : XK}

end
end L2

namespace L2
open PySem PySem.Spec PyProof.Rows



abbrev Cx.suite (X : Cx) (ea : Addr) : Cx := { X with A := X.A.mark (some (.ref ea)), calm := false, xe := fun _ _ => False }
section
variable {X : Cx} {pins pins' : List (Addr × Obj)} {R : St → Prop} {EE : XK} {σ : St} {H : Hp} {s : Shared} {ea : Addr}
theorem Cx.Ok.suite (ok : X.Ok) : (X.suite ea).Ok := ⟨ok.mod, ok.kind, ok.glob, ok.blt, ok.above, ok.inj, ok.has, ok.cab, (fun z => nomatch z), ok.frames, ok.stk, ok.exf, ok.bs, ok.bsz, ok.noex, ok.exfs, ok.funs, ok.frf⟩
theorem Inv.suite (I : Inv X pins σ H s) : Inv (X.suite ea) pins σ H s := ⟨I.ok.suite, I.os, I.bare, I.base, I.loc, I.cell, I.free, I.freeC, I.pin, I.hok, I.len⟩
end


section
variable {X : Cx} {CX : CXT} {k : Nat} {f C : Addr} {fd : FuncData} {ps : List Str} {sp : Sp} {dvs : List V} {ds : List Value} {E : XK} {x m : Str} {p pos apos : Pos} {e o : Expr} {es : List Expr} {ta : TE} {t : TA} {R : St → Prop}
end


abbrev TH := Value → Addr → TS
section
variable {X : Cx} {x n : Str} {np pos : Pos} {C : Addr} {b0 : Stmt} {suite body : List Stmt} {rest hs : List ExceptHandler} {h0 : ExceptHandler} {ts : TS} {th : TH} {i : Nat}

end
end L2

namespace L2
open PySem PySem.Spec PyProof.Rows
section
variable {prog : Program} {w : World} {A : Around} {E : Value → Shared → Prop} {K : PySem.W.Frag} {s : Shared} {e C : Addr} {bm : List Value} {hd : Value}
theorem XCls.obj (x : XCls K C bm) : PySem.W.mroIn K C (.type "object") = some true := by
  rw [x.own.mro]
  rcases x.up with rfl | ⟨S, rfl, _⟩ <;> rfl
end

end L2

namespace L2
open PySem PySem.Spec PyProof.Rows
section
variable {X : Cx} {K : PySem.W.Frag}
end

end L2

namespace SsT
open PySem PySem.SetTable

def adv (mask : Nat) (p : Probe) : Probe :=
  if p.more > 0 then { p with j := p.j + 1, more := p.more - 1 } else
  let (i, perturb) := leap mask p.i p.perturb
  { p with j := i, more := runEnd mask i - i, i, perturb }
def st0 (mask : Nat) (h : Int) : Probe :=
  { j := bits h % (mask + 1), more := runEnd mask (bits h % (mask + 1)) - bits h % (mask + 1), i := bits h % (mask + 1), perturb := bits h, dummy := none }
def it (mask : Nat) (h : Int) : Nat → Probe
  | 0 => st0 mask h
  | m + 1 => adv mask (it mask h m)
def pos (mask : Nat) (h : Int) (m : Nat) : Nat := (it mask h m).j
def raw (b : Nat) : Nat → Nat
  | 0 => b
  | n + 1 => 5 * raw b n + 1
theorem raw_add (b m : Nat) : ∀ n, raw b (m + n) = raw (raw b m) n
  | 0 => rfl
  | n + 1 => by show 5 * raw b (m + n) + 1 = 5 * raw (raw b m) n + 1; rw [raw_add b m n]
theorem raw_form (b : Nat) : ∀ n, 4 * raw b n + 1 = 5 ^ n * (4 * b + 1)
  | 0 => by simp [raw]
  | n + 1 => by
    have e := raw_form b n
    show 4 * (5 * raw b n + 1) + 1 = 5 ^ (n + 1) * (4 * b + 1)
    rw [Nat.pow_succ, Nat.mul_comm (5 ^ n) 5, Nat.mul_assoc, ← e]
    omega
theorem pow5 : ∀ k, ∃ c, 5 ^ (2 ^ k) = 1 + 2 ^ k * 4 * (2 * c + 1)
  | 0 => ⟨0, rfl⟩
  | k + 1 => by
    obtain ⟨c, e⟩ := pow5 k
    have e2 : 5 ^ (2 ^ (k + 1)) = 5 ^ (2 ^ k) * 5 ^ (2 ^ k) := by rw [Nat.pow_succ, Nat.mul_two, Nat.pow_add]
    generalize hP : 2 ^ k = P at e e2
    rw [e2, Nat.pow_succ, hP, e]
    refine ⟨c + P * (2 * c + 1) * (2 * c + 1), ?_⟩
    generalize hz : 2 * c + 1 = z
    have h1 : (1 + P * 4 * z) * (1 + P * 4 * z) = 1 + 2 * (P * 4 * z) + (P * 4 * z) * (P * 4 * z) := by
      rw [Nat.add_mul, Nat.mul_add, Nat.mul_add]; omega
    have h2 : P * 2 * 4 * (2 * (c + P * z * z) + 1) = 2 * (P * 4 * z) + (P * 4 * z) * (P * 4 * z) := by
      have e3 : 2 * (c + P * z * z) + 1 = z + 2 * (P * z * z) := by omega
      rw [e3, Nat.mul_add]
      have e4 : P * 2 * 4 * z = 2 * (P * 4 * z) := by
        rw [show P * 2 * 4 = 2 * (P * 4) by omega, Nat.mul_assoc]
      have e5 : P * 2 * 4 * (2 * (P * z * z)) = (P * 4 * z) * (P * 4 * z) := by
        rw [show P * 2 * 4 = 8 * P by omega]
        simp only [Nat.mul_assoc, Nat.mul_comm, Nat.mul_left_comm]
      rw [e4, e5]
    rw [h1, h2]
    omega

theorem raw_pow (b k : Nat) : ∃ d, raw b (2 ^ k) = b + 2 ^ k * (2 * d + 1) := by
  obtain ⟨c, e⟩ := pow5 k
  have f := raw_form b (2 ^ k)
  rw [e] at f
  generalize 2 ^ k = P at *
  refine ⟨c * (4 * b + 1) + 2 * b, ?_⟩
  have h1 : (1 + P * 4 * (2 * c + 1)) * (4 * b + 1) = (4 * b + 1) + 4 * (P * ((2 * c + 1) * (4 * b + 1))) := by
    rw [Nat.add_mul, Nat.one_mul]
    congr 1
    rw [show P * 4 = 4 * P by omega, Nat.mul_assoc, Nat.mul_assoc]
  have h2 : (2 * c + 1) * (4 * b + 1) = 2 * (c * (4 * b + 1) + 2 * b) + 1 := by
    rw [Nat.add_mul, Nat.mul_assoc]; omega
  rw [h1, h2] at f
  omega
theorem round : ∀ (k b e : Nat), e < 2 ^ k → ∃ n, n < 2 ^ k ∧ raw b n % 2 ^ k = e
  | 0, b, e, h => ⟨0, by decide, by have : e = 0 := by simpa using h
                                    subst this; exact Nat.mod_one _⟩
  | k + 1, b, e, h => by
    have hP : 0 < 2 ^ k := Nat.pow_pos (by decide)
    obtain ⟨n, hn, q⟩ := round k b (e % 2 ^ k) (Nat.mod_lt _ hP)
    obtain ⟨d, hd⟩ := raw_pow (raw b n) k
    have hadd := raw_add b n (2 ^ k)
    rw [hd] at hadd
    rw [Nat.pow_succ] at h ⊢
    generalize hPP : 2 ^ k = P at *
    generalize hr : raw b n = r at *
    have hm : r % (P * 2) % P = r % P := Nat.mod_mul_right_mod r P 2
    have hlt : r % (P * 2) < P * 2 := Nat.mod_lt _ (by omega)
    have hdiv := Nat.div_add_mod r (P * 2)
    by_cases hc : r % (P * 2) = e
    · exact ⟨n, by omega, by rw [hr]; exact hc⟩
    · refine ⟨n + P, by omega, ?_⟩
      rw [hadd]
      generalize hρ : r % (P * 2) = ρ at *
      rw [q] at hm
      have e1 : r + P * (2 * d + 1) = (ρ + P) + (P * 2) * (r / (P * 2) + d) := by
        rw [Nat.mul_add (P * 2), Nat.mul_add P, Nat.mul_one, show P * (2 * d) = P * 2 * d by rw [Nat.mul_assoc]]
        omega
      rw [e1, Nat.add_mul_mod_self_left]
      by_cases h1 : ρ < P
      · rw [Nat.mod_eq_of_lt h1] at hm
        have h2 : P ≤ e := by
          refine Nat.le_of_not_lt fun z => hc ?_
          rw [Nat.mod_eq_of_lt z] at hm
          exact hm
        have h3 : e % P = e - P := by rw [Nat.mod_eq_sub_mod h2, Nat.mod_eq_of_lt (by omega)]
        rw [h3] at hm
        rw [Nat.mod_eq_of_lt (by omega)]; omega
      · have h1 : P ≤ ρ := Nat.le_of_not_lt h1
        have h3 : ρ % P = ρ - P := by rw [Nat.mod_eq_sub_mod h1, Nat.mod_eq_of_lt (by omega)]
        rw [h3] at hm
        have h2 : e < P := by
          refine Nat.lt_of_not_le fun z => hc ?_
          rw [Nat.mod_eq_sub_mod z, Nat.mod_eq_of_lt (by omega)] at hm
          omega
        rw [Nat.mod_eq_of_lt h2] at hm
        rw [Nat.mod_eq_sub_mod (by omega), Nat.mod_eq_of_lt (by omega)]; omega

def bp (mask : Nat) (h : Int) : Nat → Nat × Nat
  | 0 => (bits h % (mask + 1), bits h)
  | n + 1 => leap mask (bp mask h n).1 (bp mask h n).2
def bstate (mask : Nat) (q : Nat × Nat) : Probe := { j := q.1, more := runEnd mask q.1 - q.1, i := q.1, perturb := q.2, dummy := none }
theorem run_le (mask i : Nat) : runEnd mask i - i ≤ 9 := by unfold runEnd; split <;> omega
theorem run_adv {mask : Nat} {h : Int} {m : Nat} {p : Probe} (e : it mask h m = p) : ∀ c, c ≤ p.more → it mask h (m + c) = { p with j := p.j + c, more := p.more - c }
  | 0, _ => by rw [Nat.add_zero, e]; rfl
  | c + 1, hc => by
    have q := run_adv e c (by omega)
    show adv mask (it mask h (m + c)) = _
    rw [q]
    unfold adv
    rw [if_pos (show p.more - c > 0 by omega)]
    simp only [Nat.sub_sub, Nat.add_assoc]
theorem at_base (mask : Nat) (h : Int) : ∀ n, ∃ m, m ≤ 10 * n ∧ it mask h m = bstate mask (bp mask h n)
  | 0 => ⟨0, by omega, rfl⟩
  | n + 1 => by
    obtain ⟨m, hm, e⟩ := at_base mask h n
    refine ⟨m + (bstate mask (bp mask h n)).more + 1, ?_, ?_⟩
    · have : (bstate mask (bp mask h n)).more ≤ 9 := run_le _ _
      omega
    · show adv mask (it mask h (m + (bstate mask (bp mask h n)).more)) = _
      rw [run_adv e _ (Nat.le_refl _)]
      unfold adv
      rw [if_neg (by simp)]
      rfl
theorem bits_lt (h : Int) : bits h < 2 ^ 64 := by
  unfold bits
  have : h % (2 ^ 64 : Int) < 2 ^ 64 := Int.emod_lt_of_pos _ (by decide)
  have h0 : 0 ≤ h % (2 ^ 64 : Int) := Int.emod_nonneg _ (by decide)
  omega
theorem bp_pert (mask : Nat) (h : Int) : ∀ n, (bp mask h n).2 = bits h / 32 ^ n
  | 0 => by simp [bp]
  | n + 1 => by
    show (bp mask h n).2 / 32 = _
    rw [bp_pert mask h n, Nat.div_div_eq_div_mul, Nat.pow_succ]
theorem bp_zero (mask : Nat) (h : Int) {n : Nat} (hn : 13 ≤ n) : (bp mask h n).2 = 0 := by
  rw [bp_pert]
  refine Nat.div_eq_of_lt (Nat.lt_of_lt_of_le (bits_lt h) ?_)
  exact Nat.le_trans (by decide : 2 ^ 64 ≤ 32 ^ 13) (Nat.pow_le_pow_right (by decide) hn)
theorem bp_lt (mask : Nat) (h : Int) (n : Nat) : (bp mask h n).1 < mask + 1 := by
  cases n with
  | zero => exact Nat.mod_lt _ (Nat.succ_pos _)
  | succ n => exact Nat.mod_lt _ (Nat.succ_pos _)
theorem bp_raw (mask : Nat) (h : Int) : ∀ n, (bp mask h (13 + n)).1 = raw (bp mask h 13).1 n % (mask + 1)
  | 0 => (Nat.mod_eq_of_lt (bp_lt mask h 13)).symm
  | n + 1 => by
    show ((bp mask h (13 + n)).1 * 5 + 1 + (bp mask h (13 + n)).2 / 32) % (mask + 1) = _
    rw [bp_raw mask h n, bp_zero mask h (by omega)]
    show (raw (bp mask h 13).1 n % (mask + 1) * 5 + 1 + 0) % (mask + 1) = (5 * raw (bp mask h 13).1 n + 1) % (mask + 1)
    generalize raw (bp mask h 13).1 n = r
    rw [Nat.add_zero, Nat.add_mod, Nat.mul_mod, Nat.mod_mod, ← Nat.mul_mod, ← Nat.add_mod, Nat.mul_comm]

theorem base_of {mask k : Nat} (hk : mask + 1 = 2 ^ k) (h : Int) {e : Nat} (he : e ≤ mask) : ∃ n, n < mask + 14 ∧ (bp mask h n).1 = e := by
  obtain ⟨n, hn, q⟩ := round k (bp mask h 13).1 e (by omega)
  exact ⟨13 + n, by omega, by rw [bp_raw, hk]; exact q⟩
theorem visits {mask k : Nat} (hk : mask + 1 = 2 ^ k) (h : Int) {e : Nat} (he : e ≤ mask) : ∃ m, m < 10 * turns mask ∧ pos mask h m = e := by
  obtain ⟨n, hn, q⟩ := base_of hk h he
  obtain ⟨m, hm, z⟩ := at_base mask h n
  refine ⟨m, by unfold turns; omega, ?_⟩
  unfold pos; rw [z]; exact q
end SsT

namespace SsT
open PySem PySem.SetTable

def Up (xs : Array Nat) : Prop := xs.toList.Pairwise (· < ·)
theorem Up.lt {xs : Array Nat} (h : Up xs) {i j a b : Nat} (hi : xs[i]? = some a) (hj : xs[j]? = some b) (hij : i < j) : a < b := by
  obtain ⟨h1, e1⟩ := Array.getElem?_eq_some_iff.mp hi
  obtain ⟨h2, e2⟩ := Array.getElem?_eq_some_iff.mp hj
  have := List.pairwise_iff_getElem.mp h i j (by simpa using h1) (by simpa using h2) hij
  simpa [e1, e2] using this
theorem Up.inj {xs : Array Nat} (h : Up xs) {i j a : Nat} (hi : xs[i]? = some a) (hj : xs[j]? = some a) : i = j := by
  rcases Nat.lt_trichotomy i j with z | z | z
  · exact absurd (h.lt hi hj z) (Nat.lt_irrefl _)
  · exact z
  · exact absurd (h.lt hj hi z) (Nat.lt_irrefl _)
theorem below_go {xs : Array Nat} {j : Nat} (hu : Up xs) : ∀ (fuel lo hi : Nat), hi - lo ≤ fuel → lo ≤ hi → hi ≤ xs.size → (∀ i a, i < lo → xs[i]? = some a → a < j) → (∀ i a, hi ≤ i → xs[i]? = some a → j ≤ a) →
    below.go xs j fuel lo hi ≤ xs.size ∧ (∀ i a, i < below.go xs j fuel lo hi → xs[i]? = some a → a < j) ∧ ∀ i a, below.go xs j fuel lo hi ≤ i → xs[i]? = some a → j ≤ a
  | 0, lo, hi, hf, hl, hs, h1, h2 => by
    have : lo = hi := by omega
    subst this
    exact ⟨hs, h1, h2⟩
  | fuel + 1, lo, hi, hf, hl, hs, h1, h2 => by
    unfold below.go
    by_cases hlt : lo < hi
    · rw [if_pos hlt]
      dsimp only
      have hm : (lo + hi) / 2 < xs.size := by omega
      have eg : xs.getD ((lo + hi) / 2) j = xs[(lo + hi) / 2] := by simp [Array.getD, hm]
      have eq : xs[(lo + hi) / 2]? = some xs[(lo + hi) / 2] := Array.getElem?_eq_getElem hm
      by_cases hc : xs.getD ((lo + hi) / 2) j < j
      · rw [if_pos hc]
        rw [eg] at hc
        refine below_go hu fuel _ hi (by omega) (by omega) hs (fun i a hi' e => ?_) h2
        by_cases z : i = (lo + hi) / 2
        · subst z; rw [eq] at e; cases e; exact hc
        · exact Nat.lt_trans (hu.lt e eq (by omega)) hc
      · rw [if_neg hc]
        rw [eg] at hc
        refine below_go hu fuel lo _ (by omega) (by omega) (by omega) h1 fun i a hi' e => ?_
        by_cases z : i = (lo + hi) / 2
        · subst z; rw [eq] at e; cases e; omega
        · have := hu.lt eq e (by omega); omega
    · rw [if_neg hlt]
      have : lo = hi := by omega
      subst this
      exact ⟨hs, h1, h2⟩
theorem below_ok {xs : Array Nat} (hu : Up xs) (j : Nat) : below xs j ≤ xs.size ∧ (∀ i a, i < below xs j → xs[i]? = some a → a < j) ∧ ∀ i a, below xs j ≤ i → xs[i]? = some a → j ≤ a :=
  below_go hu xs.size 0 xs.size (by omega) (by omega) (Nat.le_refl _) (fun i a h => by omega) fun i a h e => by
    obtain ⟨z, _⟩ := Array.getElem?_eq_some_iff.mp e; omega
theorem below_at {xs : Array Nat} (hu : Up xs) {i j : Nat} (e : xs[i]? = some j) : below xs j = i := by
  obtain ⟨h0, h1, h2⟩ := below_ok hu j
  obtain ⟨hi, _⟩ := Array.getElem?_eq_some_iff.mp e
  rcases Nat.lt_trichotomy (below xs j) i with z | z | z
  · have hb : below xs j < xs.size := by omega
    have q := hu.lt (Array.getElem?_eq_getElem hb) e z
    have := h2 _ _ (Nat.le_refl _) (Array.getElem?_eq_getElem hb)
    omega
  · exact z
  · exact absurd (h1 i j z e) (Nat.lt_irrefl _)
theorem has_iff {xs : Array Nat} (hu : Up xs) (j : Nat) : SetTable.has xs j = true ↔ j ∈ xs.toList := by
  unfold SetTable.has
  constructor
  · intro h
    have h : xs[below xs j]? = some j := by simpa using h
    obtain ⟨z, e⟩ := Array.getElem?_eq_some_iff.mp h
    rw [← e]; exact Array.getElem_mem_toList z
  · intro h
    obtain ⟨i, hi, e⟩ := List.getElem_of_mem h
    have q : xs[i]? = some j := by rw [← Array.getElem?_toList, List.getElem?_eq_getElem hi, e]
    rw [below_at hu q, q]; simp

structure Wf (t : SetTable) : Prop where
  pw : ∃ k, t.mask + 1 = 2 ^ k
  lo : 7 ≤ t.mask
  hi : t.mask ≤ 8191
  rp : Up t.place
  rd : Up t.dummies
  pm : ∀ j ∈ t.place.toList, j ≤ t.mask
  dm : ∀ j ∈ t.dummies.toList, j ≤ t.mask
  dj : ∀ j ∈ t.dummies.toList, j ∉ t.place.toList
  fl : t.place.size + t.dummies.size ≤ t.mask
section
variable {t : SetTable}
theorem Wf.slot_live (W : Wf t) {i j : Nat} (e : t.place[i]? = some j) : t.slot j = .live i := by
  unfold SetTable.slot
  dsimp only
  rw [below_at W.rp e, e]
  simp
theorem slot_at {i j : Nat} (h : t.slot j = .live i) : t.place[i]? = some j := by
  unfold SetTable.slot at h
  dsimp only at h
  split at h
  · rename_i q
    injection h with h
    subst h
    simpa using q
  · split at h <;> cases h
theorem Wf.slot_dummy (W : Wf t) {j : Nat} (h : t.slot j = .dummy) : j ∈ t.dummies.toList := by
  unfold SetTable.slot at h
  dsimp only at h
  split at h
  · cases h
  · split at h
    · rename_i q; exact (has_iff W.rd j).mp q
    · cases h
theorem Wf.dummy_slot (W : Wf t) {j : Nat} (h : j ∈ t.dummies.toList) : t.slot j = .dummy := by
  unfold SetTable.slot
  dsimp only
  rw [if_neg, if_pos ((has_iff W.rd j).mpr h)]
  intro z
  have : t.place[below t.place j]? = some j := by simpa using z
  obtain ⟨z, e⟩ := Array.getElem?_eq_some_iff.mp this
  exact W.dj j h (by rw [← e]; exact Array.getElem_mem_toList z)
theorem Wf.slot_empty (W : Wf t) {j : Nat} : t.slot j = .empty ↔ j ∉ t.place.toList ∧ j ∉ t.dummies.toList := by
  constructor
  · intro h
    refine ⟨fun m => ?_, fun m => by rw [W.dummy_slot m] at h; cases h⟩
    obtain ⟨i, hi, e⟩ := List.getElem_of_mem m
    have q : t.place[i]? = some j := by rw [← Array.getElem?_toList, List.getElem?_eq_getElem hi, e]
    rw [W.slot_live q] at h; cases h
  · intro ⟨h1, h2⟩
    cases q : t.slot j with
    | empty => rfl
    | dummy => exact absurd (W.slot_dummy q) h2
    | live i =>
      have := slot_at q
      obtain ⟨z, e⟩ := Array.getElem?_eq_some_iff.mp this
      exact absurd (by rw [← e]; exact Array.getElem_mem_toList z) h1
end

theorem nodup_sub {α : Type} [DecidableEq α] : ∀ {l m : List α}, l.Nodup → (∀ a ∈ l, a ∈ m) → l.length ≤ m.length
  | [], m, _, _ => by simp
  | a :: l, m, hn, hs => by
    obtain ⟨h1, h2⟩ := List.nodup_cons.mp hn
    have ha : a ∈ m := hs a (by simp)
    have := nodup_sub (m := m.erase a) h2 fun b hb => by
      have hb2 := hs b (by simp [hb])
      have : b ≠ a := fun e => h1 (e ▸ hb)
      exact (List.mem_erase_of_ne this).mpr hb2
    rw [List.length_erase_of_mem ha] at this
    have : 0 < m.length := List.length_pos_of_mem ha
    simp only [List.length_cons]
    omega
theorem free_of {N : Nat} {l : List Nat} (h : l.length < N) : ∃ e, e < N ∧ e ∉ l := by
  refine Classical.byContradiction fun z => ?_
  have : (List.range N).length ≤ l.length := nodup_sub List.nodup_range fun a ha => by
    refine Classical.byContradiction fun q => z ⟨a, List.mem_range.mp ha, q⟩
  rw [List.length_range] at this
  omega
theorem Wf.some_empty {t : SetTable} (W : Wf t) : ∃ e, e ≤ t.mask ∧ t.slot e = .empty := by
  obtain ⟨e, h1, h2⟩ := free_of (N := t.mask + 1) (l := t.place.toList ++ t.dummies.toList) (by have := W.fl; simp only [List.length_append, Array.length_toList]; omega)
  rw [List.mem_append] at h2
  exact ⟨e, by omega, W.slot_empty.mpr ⟨fun m => h2 (.inl m), fun m => h2 (.inr m)⟩⟩

def Fin (t : SetTable) (h : Int) (M : Nat) : Prop := M < 10 * turns t.mask ∧ t.slot (pos t.mask h M) = .empty ∧ ∀ m, m < M → t.slot (pos t.mask h m) ≠ .empty
theorem first_of {p : Nat → Prop} [DecidablePred p] : ∀ {n : Nat}, p n → ∃ m, m ≤ n ∧ p m ∧ ∀ k, k < m → ¬ p k := by
  intro n
  induction n using Nat.strongRecOn with
  | _ n ih =>
    intro hn
    by_cases z : ∃ k, k < n ∧ p k
    · obtain ⟨k, hk, pk⟩ := z
      obtain ⟨m, h1, h2, h3⟩ := ih k hk pk
      exact ⟨m, by omega, h2, h3⟩
    · exact ⟨n, Nat.le_refl _, hn, fun k hk pk => z ⟨k, hk, pk⟩⟩
theorem Wf.fin {t : SetTable} (W : Wf t) (h : Int) : ∃ M, Fin t h M := by
  obtain ⟨e, he, hs⟩ := W.some_empty
  obtain ⟨k, hk⟩ := W.pw
  obtain ⟨m, hm, hp⟩ := visits hk h he
  obtain ⟨M, h1, h2, h3⟩ := first_of (p := fun m => t.slot (pos t.mask h m) = .empty) (n := m) (by rw [hp]; exact hs)
  exact ⟨M, by omega, h2, h3⟩


def DOk (t : SetTable) (h : Int) (m : Nat) (d : Option Nat) : Prop := ∀ j, d = some j → ∃ m', m' < m ∧ j = pos t.mask h m' ∧ t.slot j = .dummy
theorem DOk.mono {t : SetTable} {h : Int} {m n : Nat} {d : Option Nat} (x : DOk t h m d) (hn : m ≤ n) : DOk t h n d := fun j e => let ⟨m', h1, h2⟩ := x j e; ⟨m', by omega, h2⟩
inductive Meets (t : SetTable) (hashAt : Nat → Int) (h : Int) (m M : Nat) : Option Met → Prop
  | empty (d : Option Nat) (hd : DOk t h M d) (hq : ∀ m' i, m ≤ m' → m' < M → t.slot (pos t.mask h m') = .live i → hashAt i ≠ h) : Meets t hashAt h m M (some (.empty (pos t.mask h M) d))
  | cand (m' i : Nat) (d : Option Nat) (h1 : m ≤ m') (h2 : m' < M) (hl : t.slot (pos t.mask h m') = .live i) (hh : hashAt i = h) (hd : DOk t h (m' + 1) d) (hq : ∀ m'' i, m ≤ m'' → m'' < m' → t.slot (pos t.mask h m'') = .live i → hashAt i ≠ h) :
      Meets t hashAt h m M (some (.candidate (pos t.mask h m') i { it t.mask h (m' + 1) with dummy := d }))
end SsT

namespace SsT
open PySem PySem.SetTable

theorem era_list {α : Type} (xs : Array α) (p : Nat) : (eraseAt xs p).toList = xs.toList.take p ++ xs.toList.drop (p + 1) := by
  unfold eraseAt
  simp
  exact List.take_of_length_le (by simp)
theorem Up.erase {xs : Array Nat} (h : Up xs) (p : Nat) : Up (eraseAt xs p) := by
  unfold Up
  rw [era_list]
  refine List.Pairwise.sublist ?_ h
  have : (xs.toList.take p ++ xs.toList.drop (p + 1)).Sublist (xs.toList.take p ++ xs.toList.drop p) := List.Sublist.append_left (by
    rw [show xs.toList.drop (p + 1) = (xs.toList.drop p).drop 1 by rw [List.drop_drop]]
    exact List.drop_sublist _ _) _
  rwa [List.take_append_drop] at this

def Reach (t : SetTable) (h : Int) (j : Nat) : Prop := ∃ m, pos t.mask h m = j ∧ ∀ m', m' < m → t.slot (pos t.mask h m') ≠ .empty
def Full (t : SetTable) (j : Nat) : Prop := t.slot j ≠ .empty
theorem Reach.mono {t t' : SetTable} {h : Int} {j : Nat} (r : Reach t h j) (hm : t'.mask = t.mask) (hf : ∀ j, Full t j → Full t' j) : Reach t' h j := by
  obtain ⟨m, h1, h2⟩ := r
  refine ⟨m, by rw [hm]; exact h1, fun m' q => ?_⟩
  rw [hm]
  exact hf _ (h2 m' q)

def Rch (t : SetTable) (hs : List Int) : Prop := ∀ (i : Nat) (h : Int) (j : Nat), hs[i]? = some h → t.place[i]? = some j → Reach t h j
structure TW (t : SetTable) (hs : List Int) : Prop where
  wf : Wf t
  sz : t.place.size = hs.length
  rch : Rch t hs
end SsT

namespace SsT
open PySem PySem.SetTable

structure Own (mask : Nat) (owner : Array (Option Nat)) (hs : List Int) (js : List Nat) : Prop where
  size : owner.size = mask + 1
  len : js.length = hs.length
  nd : js.Nodup
  le : ∀ j ∈ js, j ≤ mask
  at_ : ∀ (k j : Nat), js[k]? = some j → owner[j]? = some (some k)
  off : ∀ j, j ≤ mask → j ∉ js → owner[j]? = some none
  rch : ∀ (k : Nat) (h : Int) (j : Nat), hs[k]? = some h → js[k]? = some j → ∃ m, pos mask h m = j ∧ ∀ m', m' < m → pos mask h m' ∈ js
theorem Own.isNone {mask : Nat} {owner : Array (Option Nat)} {hs : List Int} {js : List Nat} (O : Own mask owner hs js) {j : Nat} (hj : j ≤ mask) : (owner.getD j (some 0)).isNone = true ↔ j ∉ js := by
  have hlt : j < owner.size := by rw [O.size]; omega
  have e : owner.getD j (some 0) = owner[j] := by simp [Array.getD, hlt]
  have e2 : owner[j]? = some owner[j] := Array.getElem?_eq_getElem hlt
  rw [e]
  constructor
  · intro h hm
    obtain ⟨k, hk, ek⟩ := List.getElem_of_mem hm
    have := O.at_ k j (by rw [← ek]; exact List.getElem?_eq_getElem hk)
    rw [e2] at this
    rw [Option.some.inj this] at h
    cases h
  · intro h
    have := O.off j hj h
    rw [e2] at this
    rw [Option.some.inj this]; rfl
theorem runEnd_le {mask i : Nat} (h : i ≤ mask) : runEnd mask i ≤ mask ∧ i ≤ runEnd mask i := by unfold runEnd; split <;> omega
theorem free_go {mask : Nat} {owner : Array (Option Nat)} {hs : List Int} {js : List Nat} (O : Own mask owner hs js) (h : Int) : ∀ (fuel n : Nat), (∃ n', n ≤ n' ∧ n' - n < fuel ∧ (bp mask h n').1 ∉ js) →
    (∃ m, it mask h m = bstate mask (bp mask h n) ∧ ∀ m', m' < m → pos mask h m' ∈ js) →
    ∃ j, layClean.free mask owner fuel (bp mask h n).1 (bp mask h n).2 = some j ∧ j ≤ mask ∧ j ∉ js ∧ ∃ m, pos mask h m = j ∧ ∀ m', m' < m → pos mask h m' ∈ js
  | 0, n, ⟨_, _, hf, _⟩, _ => by omega
  | fuel + 1, n, ⟨n', h1, h2, h3⟩, ⟨m, e, hm⟩ => by
    have hb : (bp mask h n).1 ≤ mask := by have := bp_lt mask h n; omega
    obtain ⟨r1, r2⟩ := runEnd_le hb
    unfold layClean.free
    generalize hi : (bp mask h n).1 = i at *
    have run : ∀ c, c ≤ runEnd mask i - i → pos mask h (m + c) = i + c := fun c hc => by
      have q := run_adv e c (by show c ≤ runEnd mask (bp mask h n).1 - (bp mask h n).1; rw [hi]; exact hc)
      unfold pos
      rw [q]
      show (bp mask h n).1 + c = i + c
      rw [hi]
    cases q : (List.range (runEnd mask i + 1 - i)).find? fun k => (owner.getD (i + k) (some 0)).isNone with
    | some k =>
      rw [List.find?_range_eq_some] at q
      obtain ⟨q1, q2, q3⟩ := q
      have q2 := List.mem_range.mp q2
      refine ⟨i + k, rfl, by omega, (O.isNone (by omega)).mp q1, m + k, run k (by omega), fun m' hm' => ?_⟩
      by_cases z : m' < m
      · exact hm m' z
      · have q4 := q3 (m' - m) (by omega)
        have e2 : m' = m + (m' - m) := by omega
        rw [e2, run _ (by omega)]
        refine Classical.byContradiction fun w => ?_
        rw [(O.isNone (by omega)).mpr w] at q4
        cases q4
    | none =>
      have all : ∀ k, k < runEnd mask i + 1 - i → i + k ∈ js := fun k hk => by
        refine Classical.byContradiction fun w => ?_
        exact List.find?_eq_none.mp q k (List.mem_range.mpr hk) ((O.isNone (by omega)).mpr w)
      have hne : n ≠ n' := fun z => by
        subst z
        have := all 0 (by omega)
        rw [hi] at h3
        exact h3 this
      dsimp only
      have IH := free_go O h fuel (n + 1) ⟨n', by omega, by omega, h3⟩ ⟨m + (runEnd mask i - i) + 1, ?_, ?_⟩
      · have e3 : bp mask h (n + 1) = leap mask i (bp mask h n).2 := by
          show leap mask (bp mask h n).1 (bp mask h n).2 = _
          rw [hi]
        rw [e3] at IH
        exact IH
      · show adv mask (it mask h (m + (runEnd mask i - i))) = _
        have q := run_adv e (runEnd mask i - i) (by show _ ≤ runEnd mask (bp mask h n).1 - (bp mask h n).1; rw [hi]; exact Nat.le_refl _)
        rw [q]
        unfold adv
        rw [if_neg (by show ¬ (runEnd mask (bp mask h n).1 - (bp mask h n).1 - (runEnd mask i - i) > 0); rw [hi]; omega)]
        rfl
      · intro m' hm'
        by_cases z : m' < m
        · exact hm m' z
        · have e2 : m' = m + (m' - m) := by omega
          rw [e2, run _ (by omega)]
          exact all _ (by omega)
theorem Own.free {mask k : Nat} (hk : mask + 1 = 2 ^ k) {owner : Array (Option Nat)} {hs : List Int} {js : List Nat} (O : Own mask owner hs js) (hl : hs.length ≤ mask) (h : Int) :
    ∃ j, layClean.free mask owner (turns mask) (bits h % (mask + 1)) (bits h) = some j ∧ j ≤ mask ∧ j ∉ js ∧ ∃ m, pos mask h m = j ∧ ∀ m', m' < m → pos mask h m' ∈ js := by
  obtain ⟨e, he, hj⟩ := free_of (N := mask + 1) (l := js) (by rw [O.len]; omega)
  obtain ⟨n, hn, q⟩ := base_of hk h (show e ≤ mask by omega)
  exact free_go O h (turns mask) 0 ⟨n, by omega, by unfold turns; omega, by rw [q]; exact hj⟩ ⟨0, rfl, fun m' z => by omega⟩
theorem Own.nil (mask : Nat) : Own mask (Array.replicate (mask + 1) none) [] [] := by
  refine ⟨by simp, rfl, .nil, fun j hj => (by cases hj), fun k j e => (by simp at e), fun j hj _ => ?_, fun k h j e => by simp at e⟩
  rw [Array.getElem?_eq_getElem (by simp; omega)]
  simp
theorem Own.snoc {mask : Nat} {owner : Array (Option Nat)} {hs : List Int} {js : List Nat} (O : Own mask owner hs js) {h : Int} {j : Nat} (h1 : j ≤ mask) (h2 : j ∉ js) (h3 : ∃ m, pos mask h m = j ∧ ∀ m', m' < m → pos mask h m' ∈ js) :
    Own mask (owner.setIfInBounds j (some js.length)) (hs ++ [h]) (js ++ [j]) := by
  have hlt : j < owner.size := by rw [O.size]; omega
  have hg : ∀ i, (owner.setIfInBounds j (some js.length))[i]? = if i = j then some (some js.length) else owner[i]? := fun i => by
    rw [Array.getElem?_setIfInBounds]
    by_cases z : j = i
    · subst z; rw [if_pos rfl, if_pos hlt, if_pos rfl]
    · rw [if_neg z, if_neg (fun w => z w.symm)]
  refine ⟨by simp [O.size], by simp [O.len], ?_, fun i hi => ?_, fun k i e => ?_, fun i hi hn => ?_, fun k g i e1 e2 => ?_⟩
  · exact List.nodup_append.mpr ⟨O.nd, List.nodup_cons.mpr ⟨by simp, .nil⟩, fun a ha b hb => by rw [List.mem_singleton] at hb; subst hb; exact fun z => h2 (z ▸ ha)⟩
  · rcases List.mem_append.mp hi with q | q
    · exact O.le i q
    · rw [List.mem_singleton] at q; subst q; exact h1
  · by_cases z : k < js.length
    · rw [List.getElem?_append_left z] at e
      have : i ≠ j := fun w => h2 (by subst w; exact List.mem_of_getElem? e)
      rw [hg, if_neg this]
      exact O.at_ k i e
    · rw [List.getElem?_append_right (by omega)] at e
      have hk : k = js.length := by
        have := (List.getElem?_eq_some_iff.mp e).1
        simp at this; omega
      subst hk
      rw [Nat.sub_self, List.getElem?_cons_zero] at e
      cases e
      rw [hg, if_pos rfl]
  · rw [hg, if_neg (fun w => hn (by rw [w]; simp))]
    exact O.off i hi fun w => hn (List.mem_append.mpr (.inl w))
  · by_cases z : k < js.length
    · rw [List.getElem?_append_left z] at e2
      rw [List.getElem?_append_left (by rw [← O.len]; exact z)] at e1
      obtain ⟨m, q1, q2⟩ := O.rch k g i e1 e2
      exact ⟨m, q1, fun m' w => List.mem_append.mpr (.inl (q2 m' w))⟩
    · rw [List.getElem?_append_right (by omega)] at e2
      have hk : k = js.length := by
        have := (List.getElem?_eq_some_iff.mp e2).1
        simp at this; omega
      subst hk
      rw [List.getElem?_append_right (by rw [O.len]; exact Nat.le_refl _)] at e1
      rw [Nat.sub_self, List.getElem?_cons_zero] at e2
      rw [O.len, Nat.sub_self, List.getElem?_cons_zero] at e1
      cases e1; cases e2
      obtain ⟨m, q1, q2⟩ := h3
      exact ⟨m, q1, fun m' w => List.mem_append.mpr (.inl (q2 m' w))⟩
end SsT

namespace Ss
open PySem PySem.Spec PyProof.Rows L2 SsT
section
variable {prog : Program} {w : World} {A : Around} {E : Value → Shared → Prop} {s : Shared}

abbrev hsh (prog : Program) (w : World) (k : List Key) : Int := tupleKeyHash (mixKind prog w) k
def IsI (ks : List Key) : Prop := ∀ k ∈ ks, ∃ i : Int, k = Sum.inl i
theorem calm {α β : Type} {b0 : β} {f : α → β → Sem (ForInStep β)} {Q : β → Shared → Prop} : ∀ xs : List α, (∀ x ∈ xs, ∀ K : ForInStep β → Shared → Prop, K (.yield b0) s → wpAny (model prog w) A (f x b0) K E s) → Q b0 s →
    wpAny (model prog w) A (forIn xs b0 f) Q E s
  | [], _, h => by rw [List.forIn_nil]; exact wpAny_pure h
  | x :: xs, hf, h => by
    rw [List.forIn_cons]
    exact wpAny_bind (hf x (.head _) _ (calm xs (fun y hy => hf y (.tail _ hy)) h))
def entS (prog : Program) (w : World) (L : List (List Key × Addr)) : Array (Int × Value) := (L.map fun x => (hsh prog w x.1, Value.ref x.2)).toArray
theorem entS_size (L : List (List Key × Addr)) : (entS prog w L).size = L.length := by unfold entS; simp
theorem entS_hs (L : List (List Key × Addr)) : (entS prog w L).toList.map (·.1) = L.map fun x => hsh prog w x.1 := by unfold entS; simp
abbrev TWL (prog : Program) (w : World) (t : SetTable) (L : List (List Key × Addr)) : Prop := TW t ((entS prog w L).toList.map (·.1))
theorem TWL.fits {t : SetTable} {L : List (List Key × Addr)} (T : TWL prog w t L) : t.fits (entS prog w L).size = true := by
  unfold SetTable.fits SetTable.fill
  have h1 := T.sz
  have h2 := T.wf.fl
  rw [entS_hs, List.length_map] at h1
  rw [entS_size]
  simp [h1]
  omega

inductive SFound (t : SetTable) (h : Int) (L : List (List Key × Addr)) (k : List Key) (adding : Bool) : SetFound → Prop
  | there (i : Nat) (b : Addr) (hi : L[i]? = some (k, b)) : SFound t h L k adding (.there (if adding then none else some i))
  | free (j : Nat) (wd : Bool) (hn : ∀ b, (k, b) ∉ L) (hj : j ≤ t.mask) (hp : j ∉ t.place.toList) (hw : wd = true → j ∈ t.dummies.toList) (hr : Reach t h j) : SFound t h L k adding (.free j wd)
end
end Ss

namespace Ss
open PySem PySem.Spec PyProof.Rows L2 SsT
section
variable {prog : Program} {w : World} {A : Around} {E : Value → Shared → Prop} {s : Shared}
def byT (w : World) : Bool := w.params.followText "set-order"
def SetO (prog : Program) (w : World) (a : Addr) (L : List (List Key × Addr)) (h : Heap) : Prop :=
  ∃ o ep t, h.get? a = some o ∧ o.ExactSet ∧ o.data = .set (entS prog w L) ep t ∧ TWL prog w t L ∧ t.plain = true ∧ t.fill * 5 < t.mask * 3 ∧ t.led = !byT w
theorem key_keep {a b : Addr} {o : Obj} {es : Array (Int × Value)} {ep : Nat} {t : SetTable} {k : List Key} {h h' : Heap} (ho : h.get? a = some o) (hd : o.data = .set es ep t) (sb : Heap.SameBut a h h') (hk : IsTupleKey (mixKind prog w) h k b) : IsTupleKey (mixKind prog w) h' k b := by
  obtain ⟨ob, items, n, e, c, d, i⟩ := hk
  have hne : b ≠ a := fun z => by subst z; rw [ho] at e; cases e; rw [hd] at d; cases d
  exact ⟨ob, items, n, (sb.2 b hne).trans e, c, d, i⟩

end
end Ss

namespace Ss
open PySem PySem.Spec PyProof.Rows L2 SsT
section
variable {prog : Program} {w : World} {A : Around} {E : Value → Shared → Prop} {s : Shared}
abbrev LK := List (List Key × Addr)

structure KOk (prog : Program) (w : World) (h : Heap) (L : LK) : Prop where
  is : ∀ y ∈ L, IsTupleKey (mixKind prog w) h y.1 y.2
  int : ∀ y ∈ L, IsI y.1
theorem KOk.sub {h : Heap} {L L' : LK} (k : KOk prog w h L) (hs : ∀ y ∈ L', y ∈ L) : KOk prog w h L' := ⟨fun y hy => k.is y (hs y hy), fun y hy => k.int y (hs y hy)⟩
theorem KOk.keep {h h' : Heap} {L L1 : LK} {a : Addr} (k : KOk prog w h L) (S : SetO prog w a L1 h) (sb : Heap.SameBut a h h') : KOk prog w h' L := by
  obtain ⟨o, ep, t, ho, _, hd, _⟩ := S
  exact ⟨fun y hy => key_keep ho hd sb (k.is y hy), k.int⟩
theorem KOk.ext {h h' : Heap} {L : LK} (k : KOk prog w h L) (e : ∀ b o, h.get? b = some o → h'.get? b = some o) : KOk prog w h' L :=
  ⟨fun y hy => let ⟨o, items, n, ho, r⟩ := k.is y hy; ⟨o, items, n, e _ _ ho, r⟩, k.int⟩
theorem SetO.keep {h h' : Heap} {L : LK} {a : Addr} (S : SetO prog w a L h) (e : ∀ o, h.get? a = some o → h'.get? a = some o) : SetO prog w a L h' := by
  obtain ⟨o, ep, t, ho, r⟩ := S
  exact ⟨o, ep, t, e _ ho, r⟩
theorem SetO.other {h h' : Heap} {L : LK} {a r : Addr} (S : SetO prog w a L h) (sb : Heap.SameBut r h h') (hne : a ≠ r) : SetO prog w a L h' := S.keep fun o e => (sb.2 a hne).trans e
theorem SetO.lt {h : Heap} {L : LK} {a : Addr} (S : SetO prog w a L h) : a < h.objs.size := let ⟨_, _, _, ho, _⟩ := S; Heap.lt_size ho
theorem SetO.typeIs {L : LK} {a : Addr} (S : SetO prog w a L s.heap) : s.TypeIs (.ref a) "set" := let ⟨o, _, _, ho, hx, _⟩ := S; ⟨o, ho, hx.1⟩
def Ep (h : Heap) (a : Addr) (ep : Nat) : Prop := ∃ o es t, h.get? a = some o ∧ o.data = .set es ep t ∧ t.fits es.size = true
theorem Ep.other {h h' : Heap} {a r : Addr} {ep : Nat} (e : Ep h a ep) (sb : Heap.SameBut r h h') (hne : a ≠ r) : Ep h' a ep := by
  obtain ⟨o, es, t, ho, x⟩ := e
  exact ⟨o, es, t, (sb.2 a hne).trans ho, x⟩
theorem SetO.ep {h : Heap} {a : Addr} {L : LK} (S : SetO prog w a L h) : ∃ ep, Ep h a ep := by
  obtain ⟨o, ep, t, ho, hx, hd, T, _⟩ := S
  exact ⟨ep, o, _, t, ho, hd, T.fits⟩
abbrev ks (L : LK) : List (List Key) := L.map (·.1)
structure Plus (L' L1 L2 : LK) (p : List Key → Prop) : Prop where
  sub : ∀ y ∈ L', y ∈ L1 ∨ y ∈ L2
  mem : ∀ k, k ∈ ks L' ↔ k ∈ ks L1 ∨ (k ∈ ks L2 ∧ p k)
  nd : (ks L').Nodup
theorem Plus.start {L1 : LK} {p : List Key → Prop} (nd : (ks L1).Nodup) : Plus L1 L1 [] p := ⟨fun y hy => .inl hy, fun k => by simp, nd⟩
theorem Plus.len {L' L1 L2 : LK} {p : List Key → Prop} (P : Plus L' L1 L2 p) : L'.length ≤ L1.length + L2.length := by
  have : (ks L').length ≤ (ks L1 ++ ks L2).length := nodup_sub P.nd fun k hk => List.mem_append.mpr ((P.mem k).mp hk |>.imp id (·.1))
  simpa using this

end
end Ss

namespace Ss
open PySem PySem.Spec PyProof.Rows L2 SsT
section
variable {prog : Program} {w : World} {A : Around} {E : Value → Shared → Prop} {s : Shared}
end
end Ss

namespace Ss
open PySem PySem.Spec PyProof.Rows L2 SsT
section
variable {prog : Program} {w : World} {A : Around} {E : Value → Shared → Prop} {s : Shared}

structure Two (prog : Program) (w : World) (a b : Addr) (L1 L2 : LK) (h : Heap) : Prop where
  ne : a ≠ b
  s1 : SetO prog w a L1 h
  s2 : SetO prog w b L2 h
  n1 : (ks L1).Nodup
  n2 : (ks L2).Nodup
  k1 : KOk prog w h L1
  k2 : KOk prog w h L2
  ln : L1.length + L2.length < 1000

end
end Ss

namespace Ss
open PySem PySem.Spec PyProof.Rows L2 SsT
section
variable {prog : Program} {w : World} {A : Around} {E : Value → Shared → Prop} {s : Shared}
structure Minus (L' L0 L1 : LK) : Prop where
  sub : ∀ y ∈ L', y ∈ L0
  mem : ∀ k, k ∈ ks L' ↔ k ∈ ks L0 ∧ k ∉ ks L1
  nd : (ks L').Nodup
end
end Ss

namespace Ss
open PySem PySem.Spec PyProof.Rows L2 SsT

end Ss

namespace Ss
open PySem PySem.Spec PyProof.Rows L2 SsT
section
variable {prog : Program} {w : World} {A : Around} {E : Value → Shared → Prop} {s : Shared}

end
end Ss

namespace Ss
open PySem PySem.Spec PyProof.Rows L2 SsT
section
variable {prog : Program} {w : World} {A : Around} {E : Value → Shared → Prop} {s : Shared}

def slotAt (w : World) (t : SetTable) : Nat → Nat
  | 0 => 0
  | i + 1 => if byT w then 0 else t.place.getD i 0 + 1
def IsSIter (h : Heap) (w : World) (it a : Addr) (t : SetTable) (i n ep : Nat) : Prop :=
  ∃ o, h.get? it = some o ∧ o.cls = .type "set_iterator" ∧ o.data = .fields #[.int (slotAt w t i : Nat) 0, .int (i : Nat) 0, .ref a, .int (n : Nat) 0, .int (ep : Nat) 0]
theorem IsSIter.typeIs {it a : Addr} {t : SetTable} {i n ep : Nat} (h : IsSIter s.heap w it a t i n ep) : s.TypeIs (.ref it) "set_iterator" := let ⟨o, ho, hc, _⟩ := h; ⟨o, ho, hc⟩

def RawS (prog : Program) (w : World) (h : Heap) (a : Addr) (L : LK) (t : SetTable) (ep : Nat) : Prop :=
  ∃ o, h.get? a = some o ∧ o.ExactSet ∧ o.data = .set (entS prog w L) ep t ∧ TWL prog w t L ∧ t.plain = true ∧ t.fill * 5 < t.mask * 3 ∧ t.led = !byT w
theorem RawS.set {h : Heap} {a : Addr} {L : LK} {t : SetTable} {ep : Nat} (R : RawS prog w h a L t ep) : SetO prog w a L h := let ⟨o, r⟩ := R; ⟨o, ep, t, r⟩
theorem SetO.raw {h : Heap} {a : Addr} {L : LK} (S : SetO prog w a L h) : ∃ t ep, RawS prog w h a L t ep := let ⟨o, ep, t, r⟩ := S; ⟨t, ep, o, r⟩
theorem RawS.keep {h h' : Heap} {a : Addr} {L : LK} {t : SetTable} {ep : Nat} (R : RawS prog w h a L t ep) (e : ∀ o, h.get? a = some o → h'.get? a = some o) : RawS prog w h' a L t ep := let ⟨o, ho, r⟩ := R; ⟨o, e _ ho, r⟩

end
end Ss

namespace Ss
open PySem PySem.Spec PyProof.Rows L2 SsT
section
variable {prog : Program} {w : World} {A : Around} {E : Value → Shared → Prop} {s : Shared}
end
end Ss

namespace Ss
open PySem PySem.Spec PyProof.Rows L2 SsT

def SH (P : Program) (w : World) (p : Addr) (L : LK) : HO := .ext (SetO P w p L)

def SetT (P : Program) (w : World) (H : Hp) (p : Addr) (S : T3i → Prop) (n : Nat) : Prop :=
  ∃ L : LK, H p = some (SH P w p L) ∧ (∀ y ∈ L, ∃ t, y.1 = key3 t ∧ H y.2 = some (.tup (l3 t))) ∧ (∀ t, key3 t ∈ ks L ↔ S t) ∧ (ks L).Nodup ∧ L.length ≤ n
theorem SetT.mono {P : Program} {w : World} {H H' : Hp} {p : Addr} {S : T3i → Prop} {n : Nat} (s : Same H H') (h : SetT P w H p S n) : SetT P w H' p S n := by
  obtain ⟨L, a, b, c⟩ := h
  exact ⟨L, s _ _ a, fun y hy => let ⟨t, e, q⟩ := b y hy; ⟨t, e, s _ _ q⟩, c⟩
section
variable {P : Program} {w : World} {H : Hp} {h : Heap}
theorem SH.of {p : Addr} {L : LK} (ok : HOk P w H h) (q : H p = some (SH P w p L)) : SetO P w p L h := (show ObjOk P w H h p (SH P w p L) from ok p _ q).1
theorem SH.ok {p : Addr} {L : LK} (x : SetO P w p L h) : ObjOk P w H h p (SH P w p L) :=
  ⟨x, let ⟨o, _, _, q, _⟩ := x; ⟨o, q⟩, fun _ _ z k => z.keep k⟩
end
section
variable {X : Cx}

end
end Ss
namespace L2
open PySem
end L2

namespace L2
open PySem PySem.Spec PyProof.Rows

def S1 (c : Nat) : Str := ⟨#[c]⟩
def SS (cs : List Nat) : Str := ⟨cs.toArray⟩
theorem SS_tl (x : Str) : SS x.cps.toList = x := by cases x; simp [SS]
section
variable {K : PySem.W.Frag}
end
end L2
namespace Ss
open PySem PySem.Spec PyProof.Rows L2
def letN (c : Nat) : Bool := decide (97 ≤ c) && decide (c ≤ 122)
def sgnN (c : Nat) : Bool := (c == 46) || ((c == 63) || letN c)
theorem eqS (a : List Nat) (x : Str) : (x == SS a) = (x.cps.toList == a) := by
  by_cases h : x = SS a
  · subst h; simp [SS]
  · have h' : ¬ x.cps.toList = a := fun z => h (by rw [← z, SS_tl])
    rw [beq_eq_false_iff_ne.mpr h, beq_eq_false_iff_ne.mpr h']
end Ss
namespace L2
open PySem PySem.Spec PyProof.Rows Ss
end L2
namespace Ss
open PySem PySem.Spec PyProof.Rows L2
end Ss
namespace Ss
open PySem L2
end Ss
namespace Ss
open PySem L2
end Ss
namespace Ss
open PySem L2
end Ss

namespace L2
open PySem PySem.Spec PyProof.Rows

section
variable {prog : Program} {w : World} {A : Around} {E : Value → Shared → Prop} {s : Shared}

abbrev Drawn (prog : Program) (w : World) (A : Around) (it : Addr) (G : Heap → Prop) (R : Value → Prop) (At : Heap → Prop) : Prop :=
  ∀ (s1 : Shared) (Q : Value → Shared → Prop) (E : Value → Shared → Prop), G s1.heap → (∀ u h' tk, R u → At h' → Heap.SameBut it s1.heap h' → Q u { s1 with heap := h', toks := tk }) → wpAny (model prog w) A (Builtin.SmallTypes.nextOf (.ref it)) Q E s1
end
inductive Zk where
  | seq (t : Bool) (a : Addr)
  | str (x : Str)
def Zk.v : Zk → V
  | .seq _ a => .ref a
  | .str x => .str x
def Zk.has (K : PySem.W.Frag) (z : Zk) (H : Hp) (i : Nat) (v : V) : Prop := match z with
  | .seq t a => ∃ ys, SqB K t H a ys ∧ ys[i]? = some v
  | .str x => ∃ c, x.cps[i]? = some c ∧ v = .str ⟨#[c]⟩
def Zk.rd (K : PySem.W.Frag) (z : Zk) (H : Hp) : Prop := match z with
  | .seq t a => ∃ ys, SqB K t H a ys
  | .str _ => True
def Zk.at (z : Zk) (it : Addr) (i : Nat) (h : Heap) : Prop := match z with
  | .seq t a => ZS.At ⟨t, it, a⟩ h i
  | .str x => ∃ ty t, (ty = "str_ascii_iterator" ∨ ty = "str_iterator") ∧ h.IsStrIter it ty x t i
theorem Zk.at.keep {z : Zk} {it : Addr} {i : Nat} {h h' : Heap} (x : z.at it i h) (f : ∀ o, h.get? it = some o → h'.get? it = some o) : z.at it i h' := by
  cases z with
  | seq t a => exact ZS.At.at (z := ⟨t, it, a⟩) x f
  | str y => obtain ⟨ty, t, e, o, ho, r⟩ := x; exact ⟨ty, t, e, o, f o ho, r⟩
theorem Zk.at.obj {z : Zk} {it : Addr} {i : Nat} {h : Heap} (x : z.at it i h) : ∃ o, h.get? it = some o ∧ ∀ v, o.data ≠ .cell v := by
  cases z with
  | seq t a => exact ZS.At.obj (z := ⟨t, it, a⟩) x
  | str y => obtain ⟨ty, t, e, o, ho, c, d⟩ := x; exact ⟨o, ho, fun v q => by rw [d] at q; cases q⟩
section
variable {X : Cx} {pins : List (Addr × Obj)} {σ : St} {H : Hp} {s : Shared} {A : Around}
end
def Pushes (v : Value) (o : Obj) (G : Heap → Prop) : Prop := ∀ (prog : Program) (w : World) (A : Around) (Q : Value → Shared → Prop) (E : Value → Shared → Prop) (s : Shared), G s.heap → Q (.ref s.heap.objs.size) { s with heap := s.heap.push o } → wpAny (model prog w) A (pyIter v) Q E s

structure ZMade (z : Zk) (v : Value) (h : Heap) where
  o : Obj
  G : Heap → Prop
  live : o.isFreed = false
  pu : Pushes v o G
  g : G h
  st : ∀ o', G h → G (h.push o')
  at_ : ∀ h' it, h'.get? it = some o → z.at it 0 h'
section
variable {prog : Program} {w : World} {A : Around} {E : Value → Shared → Prop} {s : Shared}
end
end L2

namespace L2
open PySem PySem.Spec PyProof.Rows

end L2

namespace L2
open PySem PySem.Spec PyProof.Rows

section
variable {X : Cx} {c P : Addr} {ps : Array Value} {k : Nat} {o elt tg iter : Expr} {ifs : List Expr} {scope : Scope} {own : List (Str × Nat)} {apos pos gpos : Pos} {wi : TI} {g : TG} {tt : TT} {to te : TE}
end
end L2
namespace L2
open PySem PySem.Spec PyProof.Rows
end L2

namespace L2
open PySem PySem.Spec PyProof.Rows Ss

section
variable {K : PySem.W.Frag} {H H' : Hp} {cs ds : List Nat} {i : Nat} {v : V}
theorem get_lt {α : Type} {l : List α} {i : Nat} (h : i < l.length) : ∃ x, l[i]? = some x := ⟨l[i], by simp [h]⟩
end
end L2
namespace Ss
open PySem PySem.Spec PyProof.Rows L2
end Ss
namespace L2
open PySem PySem.Spec PyProof.Rows Ss
theorem S1_beq (a b : Nat) : (S1 a == S1 b) = (a == b) := by
  rw [show S1 b = SS [b] from rfl, eqS]
  show (([a] : List Nat) == [b]) = _
  by_cases h : a = b
  · subst h; simp
  · rw [beq_eq_false_iff_ne.mpr h, beq_eq_false_iff_ne.mpr fun z => h (by simpa using z)]
theorem in2 (x y : Nat) : inV (.str (S1 x)) [.str (Str.ofString "?"), .str (S1 y)] = ((x == 63) || (x == y)) := by
  show ((S1 63 == S1 x) || ((S1 y == S1 x) || false)) = _
  rw [S1_beq, S1_beq, Bool.or_false]
  have c : ∀ p q : Nat, (p == q) = (q == p) := fun p q => by
    by_cases h : p = q
    · subst h; rfl
    · rw [beq_eq_false_iff_ne.mpr h, beq_eq_false_iff_ne.mpr fun z => h z.symm]
  rw [c 63, c y]
end L2
namespace Ss
end Ss
namespace L2
open PySem PySem.Spec PyProof.Rows Ss
end L2
namespace L2
open PySem PySem.Spec PyProof.Rows Ss
end L2

namespace L2
open PySem PySem.Spec PyProof.Rows

section
variable {X : Cx} {pins : List (Addr × Obj)} {σ : St} {H : Hp} {s : Shared} {a : Addr} {y v : V} {u r : Value} {A : Around} {E : Value → Shared → Prop}

end
section
variable {X : Cx}

end
end L2

namespace L2
open PySem PySem.Spec PyProof.Rows

abbrev IsZipB (h : Heap) (z TI TO : Addr) (f0 : Value) (b : Bool) : Prop := h.get? z = some { cls := .type "zip", dict := none, data := .fields #[f0, .bool b, .bool false, .ref TI, .ref TO], slots := #[] }
section
variable {prog : Program} {w : World} {A : Around} {E : Value → Shared → Prop} {s : Shared}
end
end L2

namespace L2
open PySem PySem.Spec PyProof.Rows

abbrev zfp (B : Nat) : List Addr := [(B + 4), (B + 2), (B + 3), B + 0, B + 1]
def ZnV (B : Nat) (z1 z2 : Zk) (i : Nat) (h : Heap) (H : Hp) : Prop :=
  h.get? (B + 2) = some { cls := .type "tuple", data := .seq #[.ref (B + 0), .ref (B + 1)] } ∧ (∃ a1 a2, h.get? (B + 3) = some { cls := .type "tuple", data := .seq #[a1, a2] }) ∧ z1.at (B + 0) i h ∧ z2.at (B + 1) i h ∧
    (IsZip h (B + 4) (B + 2) (B + 3) .none ∨ ∃ (T : Nat) (b : Bool) (xs : List V), IsZipB h (B + 4) (B + 2) (B + 3) (rawInt T) b ∧ H T = some (.tup xs))
theorem ZnV.obj {B : Nat} {z1 z2 : Zk} {i : Nat} {h : Heap} {H : Hp} (st : ZnV B z1 z2 i h H) : ∀ c ∈ zfp B, ∃ o, h.get? c = some o ∧ ∀ v, o.data ≠ .cell v := by
  intro c hc
  obtain ⟨hTI, ⟨a1, a2, hTO⟩, h1, h2, hz⟩ := st
  have e' : c = (B + 4) ∨ c = (B + 2) ∨ c = (B + 3) ∨ c = B + 0 ∨ c = B + 1 := by simpa using hc
  rcases e' with q | q | q | q | q
  · rw [q]
    rcases hz with hz | ⟨T, b, xs, hz, _⟩
    · exact ⟨_, hz, fun v q => nomatch q⟩
    · exact ⟨_, hz, fun v q => nomatch q⟩
  · rw [q]; exact ⟨_, hTI, fun v q => nomatch q⟩
  · rw [q]; exact ⟨_, hTO, fun v q => nomatch q⟩
  · rw [q]; exact h1.obj
  · rw [q]; exact h2.obj
theorem ZnV.keep {B : Nat} {z1 z2 : Zk} {i : Nat} {h h' : Heap} {H H' : Hp} (st : ZnV B z1 z2 i h H) (k : ∀ c ∈ zfp B, ∀ o, h.get? c = some o → h'.get? c = some o) (kt : ∀ T xs, H T = some (.tup xs) → H' T = some (.tup xs)) : ZnV B z1 z2 i h' H' := by
  obtain ⟨hTI, ⟨a1, a2, hTO⟩, h1, h2, hz⟩ := st
  refine ⟨k _ (by simp) _ hTI, ⟨a1, a2, k _ (by simp) _ hTO⟩, h1.keep fun o q => k _ (by simp) o q, h2.keep fun o q => k _ (by simp) o q, ?_⟩
  rcases hz with hz | ⟨T, b, xs, hz, e⟩
  · exact .inl (k _ (by simp) _ hz)
  · exact .inr ⟨T, b, xs, k _ (by simp) _ hz, kt T xs e⟩
section
variable {X : Cx} {pins : List (Addr × Obj)} {σ : St} {H : Hp} {s : Shared} {A : Around} {E : Value → Shared → Prop} {z1 z2 : Zk} {B i : Nat}
theorem DPut.tups {H1 H6 : Hp} {D : Addr} {y v : V} (g : DPut H1 D y v H6) {T : Addr} {xs : List V} (e : H1 T = some (.tup xs)) : H6 T = some (.tup xs) := by
  rcases g with ⟨kvs, k, eD, _, _, eH⟩ | ⟨kvs, k, b, eD, _, _, _, eH⟩
  · rw [eH, upd_ne (fun z => by rw [z, eD] at e; cases e)]; exact e
  · rw [eH, upd_ne (fun z => by rw [z, eD] at e; cases e)]; exact e
end
end L2

namespace L2
open PySem PySem.Spec PyProof.Rows
section
variable {prog : Program} {w : World} {A : Around} {E : Value → Shared → Prop} {h : Heap} {g : Array GenState} {d : PySem.Drawn} {t : Nat} {os : OsState} {a : Addr} {o : Obj}
end
end L2

namespace L2
open PySem PySem.Spec PyProof.Rows
section
variable {prog : Program} {w : World} {A : Around} {E : Value → Shared → Prop} {h : Heap} {g : Array GenState} {d : PySem.Drawn} {t : Nat} {os : OsState} {a : Addr}
end
end L2

namespace L2
open PySem PySem.Spec PyProof.Rows
end L2

namespace Ss
open PySem PySem.Spec L2

def Front (s w : T3i) (ts : List T3i) (d t : T3i) : Prop := Seen s w ts t ∧ doorF s w t = d
def seenB (s w : T3i) (ts : List T3i) (t : T3i) : Bool := ts.all fun g => !decide (doorF s w g = doorF s w t) || decide (depthF s w t ≤ depthF s w g)
theorem seenB_iff {s w t : T3i} {ts : List T3i} (h : t ∈ ts) : seenB s w ts t = true ↔ Seen s w ts t := by
  unfold seenB
  rw [List.all_eq_true]
  constructor
  · intro a
    refine ⟨h, fun g hg e => ?_⟩
    have := a g hg
    rw [decide_eq_true e] at this
    simpa using this
  · intro a g hg
    by_cases e : doorF s w g = doorF s w t
    · rw [decide_eq_true e, decide_eq_true (a.2 g hg e)]; rfl
    · rw [decide_eq_false e]; rfl
theorem Front.uniq {s w d t u : T3i} {ts : List T3i} (h : Front s w ts d t) (h' : Front s w ts d u) : t = u := by
  have e : doorF s w t = doorF s w u := h.2.trans h'.2.symm
  have a := h.1.2 u h'.1.1 e.symm
  have b := h'.1.2 t h.1.1 e
  exact same_place e (by omega)
end Ss

namespace L2
open PySem PySem.Spec PyProof.Rows

section
variable {K : PySem.W.Frag} {Ps : List Addr} {bmo C N : Addr} {ob : Obj} {od : Option Addr} {cd : ClassData} {sl : Array (Option Value)} {u : Obj}
end
end L2

namespace Ss
open PySem PySem.Spec PyProof.Rows L2

section
variable {prog : Program} {w : World} {A : Around} {E : Value → Shared → Prop} {s : Shared} {κ : KeyKind} {kd : SortKind}

end
section
variable {X : Cx}
end
end Ss

namespace Ss
open PySem PySem.Spec L2

abbrev O3 : T3i := (0, 0, 0)
def ordF (w : T3i) (ts : List T3i) : List T3i := if lt3 w O3 = true then ts.reverse else ts
def rwF (s w : T3i) (ts : List T3i) (d : T3i) : List T3i := (ordF w ts).filter fun g => decide (doorF s w g = d)
def picF (s w : T3i) (cs : List Nat) (d : T3i) : Nat := cs.getD ((doorsF s w).idxOf d) 0
def sgF (s w : T3i) (cs : List Nat) (p : T3i) : Nat := picF s w cs (doorF s w p)
def sgKV (s w : T3i) (cs : List Nat) : List (List Key × V) := (doorsF s w).map fun d => (key3 d, V.str (S1 (picF s w cs d)))
def vflds (dS dD dR : Addr) : List (Str × V) := putF "rows" (.ref dR) (putF "doors" (.ref dD) (putF "signs" (.ref dS) []))
def DrAt (K : PySem.W.Frag) (H : Hp) (dD : Addr) (s w : T3i) (t0 : List T3i) : Prop := ∃ kvs, H dD = some (.dT kvs) ∧ ∀ g ∈ t0, ∃ v, valV kvs (key3 g) = some v ∧ T3 K H v (doorF s w g)

def RwAt (K : PySem.W.Frag) (H : Hp) (dR : Addr) (ds : List T3i) (la : T3i → Addr) (R : T3i → List T3i) : Prop :=
  H dR = some (.dT (ds.map fun d => (key3 d, V.ref (la d)))) ∧ (∀ d ∈ ds, ∀ e ∈ ds, la d = la e → d = e) ∧ ∀ d ∈ ds, ∃ xs, H (la d) = some (.lst xs) ∧ All3 K H xs (R d)
structure VwParts (K : PySem.W.Frag) (C : Addr) (H : Hp) (p dx dS dD dR : Addr) (la : T3i → Addr) (s w : T3i) (cs : List Nat) (t0 ts : List T3i) : Prop where
  ob : H p = some (.ins C dx (vflds dS dD dR))
  sg : H dS = some (.dT (sgKV s w cs))
  dr : DrAt K H dD s w t0
  rw : RwAt K H dR (doorsF s w) la (rwF s w ts)
def VwAt (K : PySem.W.Frag) (C : Addr) (H : Hp) (p : Addr) (s w : T3i) (cs : List Nat) (t0 ts : List T3i) : Prop := ∃ dx dS dD dR la, VwParts K C H p dx dS dD dR la s w cs t0 ts
theorem DrAt.mono {K : PySem.W.Frag} {H H' : Hp} {dD : Addr} {s w : T3i} {t0 : List T3i} (e : Same H H') (h : DrAt K H dD s w t0) : DrAt K H' dD s w t0 :=
  let ⟨kvs, h1, h2⟩ := h; ⟨kvs, e _ _ h1, fun g hg => let ⟨v, a, b⟩ := h2 g hg; ⟨v, a, b.mono e⟩⟩
theorem RwAt.mono {K : PySem.W.Frag} {H H' : Hp} {dR : Addr} {ds : List T3i} {la : T3i → Addr} {R : T3i → List T3i} (e : Same H H') (h : RwAt K H dR ds la R) : RwAt K H' dR ds la R :=
  ⟨e _ _ h.1, h.2.1, fun d hd => let ⟨xs, a, b⟩ := h.2.2 d hd; ⟨xs, e _ _ a, b.mono e⟩⟩
theorem VwAt.mono {K : PySem.W.Frag} {C : Addr} {H H' : Hp} {p : Addr} {s w : T3i} {cs : List Nat} {t0 ts : List T3i} (e : Same H H') (h : VwAt K C H p s w cs t0 ts) : VwAt K C H' p s w cs t0 ts :=
  let ⟨dx, dS, dD, dR, la, v⟩ := h; ⟨dx, dS, dD, dR, la, e _ _ v.ob, e _ _ v.sg, v.dr.mono e, v.rw.mono e⟩

abbrev Look := T3i × List Nat
structure LkOk (s : T3i) (L : Look) : Prop where
  way : IsWay L.1
  len : L.2.length = (doorsF s L.1).length
  sgn : ∀ c ∈ L.2, sgnN c = true ∧ c < 1000

def LkAt (K : PySem.W.Frag) (H : Hp) (v : V) (L : Look) : Prop := ∃ p vw, v = .ref p ∧ H p = some (.tup [vw, .str (SS L.2)]) ∧ T3 K H vw L.1
theorem LkAt.mono {K : PySem.W.Frag} {H H' : Hp} {v : V} {L : Look} (e : Same H H') (h : LkAt K H v L) : LkAt K H' v L := let ⟨p, vw, a, b, c⟩ := h; ⟨p, vw, a, e _ _ b, c.mono e⟩
def dLk (L : Look) : PyData := .tuple [d3 L.1, .str (SS L.2)]
theorem LkAt.dp {K : PySem.W.Frag} {H : Hp} {v : V} {L : Look} (h : LkAt K H v L) : Dp K H v (dLk L) := by
  obtain ⟨p, vw, rfl, b, c⟩ := h
  exact .tup (SqT.of b) (.cons c.dp (.cons (.str _) .nil))
def LksAt (K : PySem.W.Frag) (H : Hp) : List V → List Look → Prop := Paired (LkAt K H)
theorem LksAt.mono {K : PySem.W.Frag} {H H' : Hp} (e : Same H H') {vs : List V} {Ls : List Look} (h : LksAt K H vs Ls) : LksAt K H' vs Ls := Paired.mapP h fun _ _ z => z.mono e
theorem Paired.getL {α β : Type} {R : α → β → Prop} : ∀ {xs : List α} {ys : List β} {i : Nat} {x : α}, Paired R xs ys → xs[i]? = some x → ∃ y, ys[i]? = some y ∧ R x y
  | _, _, 0, _, .cons (b := b) r _, e => ⟨b, rfl, by cases e; exact r⟩
  | _, _, i + 1, _, .cons _ t, e => Paired.getL (i := i) t e
theorem Paired.snocL {α β : Type} {R : α → β → Prop} {x : α} {y : β} (z : R x y) : ∀ {xs : List α} {ys : List β}, Paired R xs ys → Paired R (xs ++ [x]) (ys ++ [y])
  | _, _, .nil => .cons z .nil
  | _, _, .cons a b => .cons a (Paired.snocL z b)
theorem LksAt.dp {K : PySem.W.Frag} {H : Hp} : ∀ {vs : List V} {Ls : List Look}, LksAt K H vs Ls → DpAll K H vs (Ls.map dLk)
  | _, _, .nil => .nil
  | _, _, .cons r t => .cons r.dp (LksAt.dp t)
def toldF (s : T3i) (Ls : List Look) (ts : List T3i) (g : T3i) : List (Nat × Nat) := (Ls.zipIdx.filter fun p => seenB s p.1.1 ts g).map fun p => (p.2, sgF s p.1.1 p.1.2 g)
def letsF (t : List (Nat × Nat)) : List (Nat × Nat) := t.filter fun p => letN p.2
def unlike (t : List (Nat × Nat)) : Option (Nat × Nat) := match t with
  | [] => none
  | (n, c) :: r => (((n, c) :: r).find? fun p => !decide (p.2 = c)).map fun p => (n, p.1)
def barT (t : List (Nat × Nat)) : Option (Nat × Nat) := match t.find? fun p => decide (p.2 = 46) with
  | some p => some (p.1, p.1)
  | none => unlike (letsF t)
def barF (s : T3i) (Ls : List Look) (ts : List T3i) (g : T3i) : Option (Nat × Nat) := barT (toldF s Ls ts g)
end Ss
namespace Ss
open PySem PySem.Spec L2

def Lists (H : Hp) (A : Addr → Prop) : Prop := ∀ b, A b → ∃ xs, H b = some (.lst xs)
end Ss
namespace Ss
open PySem PySem.Spec L2


def VwNew (K : PySem.W.Frag) (C : Addr) (B H : Hp) (p : Addr) (s w : T3i) (cs : List Nat) (t0 ts : List T3i) : Prop := ∃ dx dS dD dR la, VwParts K C H p dx dS dD dR la s w cs t0 ts ∧ ∀ d ∈ doorsF s w, B (la d) = none
structure VwsP (K : PySem.W.Frag) (C : Addr) (H : Hp) (s : T3i) (t0 ts : List T3i) (vs : List V) (Ls : List Look) (las : List (T3i → Addr)) : Prop where
  len : vs.length = Ls.length
  lel : las.length = Ls.length
  each : ∀ (i : Nat) v L la, vs[i]? = some v → Ls[i]? = some L → las[i]? = some la → ∃ p dx dS dD dR, v = .ref p ∧ VwParts K C H p dx dS dD dR la s L.1 L.2 t0 ts
  apart : ∀ (i j : Nat) L M la lb, i ≠ j → Ls[i]? = some L → Ls[j]? = some M → las[i]? = some la → las[j]? = some lb → ∀ d ∈ doorsF s L.1, ∀ e ∈ doorsF s M.1, la d ≠ lb e
def VwsAt (K : PySem.W.Frag) (C : Addr) (H : Hp) (s : T3i) (t0 ts : List T3i) (vs : List V) (Ls : List Look) : Prop := ∃ las, VwsP K C H s t0 ts vs Ls las
theorem VwsAt.mono {K : PySem.W.Frag} {C : Addr} {H H' : Hp} {s : T3i} {t0 ts : List T3i} {vs : List V} {Ls : List Look} (e : Same H H') (h : VwsAt K C H s t0 ts vs Ls) : VwsAt K C H' s t0 ts vs Ls := by
  obtain ⟨las, a, b, c, d⟩ := h
  refine ⟨las, a, b, fun i v L la h1 h2 h3 => ?_, d⟩
  obtain ⟨p, dx, dS, dD, dR, e1, e2⟩ := c i v L la h1 h2 h3
  exact ⟨p, dx, dS, dD, dR, e1, e _ _ e2.ob, e _ _ e2.sg, e2.dr.mono e, e2.rw.mono e⟩
theorem VwsAt.nil {K : PySem.W.Frag} {C : Addr} {H : Hp} {s : T3i} {t0 ts : List T3i} : VwsAt K C H s t0 ts [] [] := ⟨[], rfl, rfl, fun i v L la h => by simp at h, fun i j L M la lb _ h => by simp at h⟩
theorem VwsAt.get {K : PySem.W.Frag} {C : Addr} {H : Hp} {s : T3i} {t0 ts : List T3i} {vs : List V} {Ls : List Look} {i : Nat} {v : V} (h : VwsAt K C H s t0 ts vs Ls) (hv : vs[i]? = some v) : ∃ p L, Ls[i]? = some L ∧ v = .ref p ∧ VwAt K C H p s L.1 L.2 t0 ts := by
  obtain ⟨las, a, b, c, d⟩ := h
  have hi := (List.getElem?_eq_some_iff.mp hv).1
  obtain ⟨L, hL⟩ := get_lt (l := Ls) (i := i) (by omega)
  obtain ⟨la, hla⟩ := get_lt (l := las) (i := i) (by omega)
  obtain ⟨p, dx, dS, dD, dR, e1, e2⟩ := c i v L la hv hL hla
  exact ⟨p, L, hL, e1, dx, dS, dD, dR, la, e2⟩
theorem snoc_get {α : Type} {l : List α} {x y : α} {i : Nat} (h : (l ++ [x])[i]? = some y) : l[i]? = some y ∨ (i = l.length ∧ y = x) := by
  rcases Nat.lt_or_ge i l.length with z | z
  · rw [List.getElem?_append_left z] at h; exact .inl h
  · rw [List.getElem?_append_right z] at h
    have hi := (List.getElem?_eq_some_iff.mp h).1
    have hi : i - l.length < 1 := hi
    have e : i - l.length = 0 := by omega
    rw [e] at h
    exact .inr ⟨by omega, (Option.some.inj h).symm⟩
theorem VwsAt.snoc {K : PySem.W.Frag} {C : Addr} {H H' : Hp} {s : T3i} {t0 ts : List T3i} {vs : List V} {Ls : List Look} {p : Addr} {L : Look} (h : VwsAt K C H s t0 ts vs Ls) (e : Same H H') (hn : VwNew K C H H' p s L.1 L.2 t0 ts) : VwsAt K C H' s t0 ts (vs ++ [.ref p]) (Ls ++ [L]) := by
  obtain ⟨las, a, b, c, d⟩ := h
  obtain ⟨dx, dS, dD, dR, la, hP, hf⟩ := hn
  have old : ∀ (i : Nat) M lb, Ls[i]? = some M → las[i]? = some lb → ∀ f ∈ doorsF s M.1, ∃ o, H (lb f) = some o := by
    intro i M lb h1 h2 f hf
    have hi := (List.getElem?_eq_some_iff.mp h1).1
    obtain ⟨v, hv⟩ := get_lt (l := vs) (i := i) (by omega)
    obtain ⟨q, dx, dS, dD, dR, _, e2⟩ := c i v M lb hv h1 h2
    obtain ⟨xs, hx, _⟩ := e2.rw.2.2 f hf
    exact ⟨_, hx⟩
  refine ⟨las ++ [la], by simp [a], by simp [b], fun i v M lb h1 h2 h3 => ?_, fun i j M N lb lc hij h1 h2 h3 h4 f hf' g hg' => ?_⟩
  · rcases snoc_get h1 with z1 | ⟨z1, z1'⟩
    · have hi := (List.getElem?_eq_some_iff.mp z1).1
      rcases snoc_get h2 with z2 | ⟨z2, _⟩
      · rcases snoc_get h3 with z3 | ⟨z3, _⟩
        · obtain ⟨q, dx, dS, dD, dR, e1, e2⟩ := c i v M lb z1 z2 z3
          exact ⟨q, dx, dS, dD, dR, e1, e _ _ e2.ob, e _ _ e2.sg, e2.dr.mono e, e2.rw.mono e⟩
        · omega
      · omega
    · rcases snoc_get h2 with z2 | ⟨_, z2⟩
      · have := (List.getElem?_eq_some_iff.mp z2).1; omega
      · rcases snoc_get h3 with z3 | ⟨_, z3⟩
        · have := (List.getElem?_eq_some_iff.mp z3).1; omega
        · subst z1' z2 z3
          exact ⟨p, dx, dS, dD, dR, rfl, hP⟩
  · rcases snoc_get h1 with z1 | ⟨z1, z1'⟩
    · have hi := (List.getElem?_eq_some_iff.mp z1).1
      have z3 : las[i]? = some lb := by
        rcases snoc_get h3 with z3 | ⟨z3, _⟩
        · exact z3
        · omega
      rcases snoc_get h2 with z2 | ⟨z2, z2'⟩
      · have hj := (List.getElem?_eq_some_iff.mp z2).1
        rcases snoc_get h4 with z4 | ⟨z4, _⟩
        · exact d i j M N lb lc hij z1 z2 z3 z4 f hf' g hg'
        · omega
      · rcases snoc_get h4 with z4 | ⟨_, z4⟩
        · have := (List.getElem?_eq_some_iff.mp z4).1; omega
        · subst z2' z4
          obtain ⟨o, ho⟩ := old i M lb z1 z3 f hf'
          intro z
          rw [z, hf g hg'] at ho; cases ho
    · rcases snoc_get h3 with z3 | ⟨_, z3⟩
      · have := (List.getElem?_eq_some_iff.mp z3).1; omega
      · subst z1' z3
        rcases snoc_get h2 with z2 | ⟨z2, _⟩
        · have hj := (List.getElem?_eq_some_iff.mp z2).1
          rcases snoc_get h4 with z4 | ⟨z4, _⟩
          · obtain ⟨o, ho⟩ := old j N lc z2 z4 g hg'
            intro z
            rw [← z, hf f hf'] at ho; cases ho
          · omega
        · omega

def NSAt (H : Hp) (v : V) (t : Nat × Nat) : Prop := ∃ p, v = .ref p ∧ H p = some (.tup [.int (t.1 : Int), .str (S1 t.2)])
def NSs (H : Hp) : List V → List (Nat × Nat) → Prop := Paired (NSAt H)
theorem NSAt.mono {H H' : Hp} {v : V} {t : Nat × Nat} (e : Same H H') (h : NSAt H v t) : NSAt H' v t := let ⟨p, a, b⟩ := h; ⟨p, a, e _ _ b⟩
theorem NSs.mono {H H' : Hp} (e : Same H H') {vs : List V} {l : List (Nat × Nat)} (h : NSs H vs l) : NSs H' vs l := Paired.mapP h fun _ _ z => z.mono e
theorem NSAt.put {H : Hp} {l : Addr} {xs ys : List V} {v : V} {t : Nat × Nat} (hl : H l = some (.lst xs)) (h : NSAt H v t) : NSAt (upd H l (.lst ys)) v t :=
  let ⟨p, a, b⟩ := h; ⟨p, a, by rw [upd_ne (fun e => by subst e; rw [hl] at b; cases b)]; exact b⟩
theorem NSs.put {H : Hp} {l : Addr} {xs ys : List V} (hl : H l = some (.lst xs)) {vs : List V} {t : List (Nat × Nat)} (h : NSs H vs t) : NSs (upd H l (.lst ys)) vs t := Paired.mapP h fun _ _ z => z.put hl

def BarV (H : Hp) (v : V) (o : Option (Nat × Nat)) : Prop := match o with
  | none => v = .non
  | some t => ∃ p, v = .ref p ∧ H p = some (.tup [.int (t.1 : Int), .int (t.2 : Int)])
theorem BarV.mono {H H' : Hp} {v : V} {o : Option (Nat × Nat)} (e : Same H H') (h : BarV H v o) : BarV H' v o := by
  cases o with
  | none => exact h
  | some t => obtain ⟨p, a, b⟩ := h; exact ⟨p, a, e _ _ b⟩
def dBar : Option (Nat × Nat) → PyData
  | none => .none
  | some t => .tuple [.int (t.1 : Int), .int (t.2 : Int)]
theorem BarV.dp {K : PySem.W.Frag} {H : Hp} {v : V} {o : Option (Nat × Nat)} (h : BarV H v o) : Dp K H v (dBar o) := by
  cases o with
  | none => cases h; exact .non
  | some t => obtain ⟨p, rfl, b⟩ := h; exact .tup (SqT.of b) (.cons (.int _) (.cons (.int _) .nil))
end Ss
namespace Ss
open PySem PySem.Spec L2
end Ss
namespace Ss
open PySem L2
theorem at_zero {x : V} {r : List V} : atI (x :: r) 0 = some x := at_of (j := 0) rfl rfl
end Ss
namespace Ss
open PySem PySem.Spec L2
def TbAt (H : Hp) (s : T3i) (v : V) (L : Look) : Prop := ∃ d kvs, v = .ref d ∧ H d = some (.dT kvs) ∧ ∀ t ∈ allF s, valV kvs (key3 t) = some (V.str (S1 (sgF s L.1 L.2 t)))
theorem TbAt.mono {H H' : Hp} {s : T3i} {v : V} {L : Look} (e : Same H H') (h : TbAt H s v L) : TbAt H' s v L := let ⟨d, kvs, a, b, c⟩ := h; ⟨d, kvs, a, e _ _ b, c⟩
def TbsAt (H : Hp) (s : T3i) : List V → List Look → Prop := Paired (TbAt H s)
theorem TbsAt.mono {H H' : Hp} {s : T3i} (e : Same H H') {vs : List V} {Ls : List Look} (h : TbsAt H s vs Ls) : TbsAt H' s vs Ls := Paired.mapP h fun _ _ z => z.mono e
theorem TbAt.put {H : Hp} {s : T3i} {l : Addr} {xs ys : List V} {v : V} {L : Look} (hl : H l = some (.lst xs)) (h : TbAt H s v L) : TbAt (upd H l (.lst ys)) s v L :=
  let ⟨p, kvs, a, b, c⟩ := h; ⟨p, kvs, a, by rw [upd_ne (fun e => by subst e; rw [hl] at b; cases b)]; exact b, c⟩
theorem LkAt.put {K : PySem.W.Frag} {H : Hp} {l : Addr} {xs ys : List V} {v : V} {L : Look} (hl : H l = some (.lst xs)) (h : LkAt K H v L) : LkAt K (upd H l (.lst ys)) v L :=
  let ⟨p, vw, a, b, c⟩ := h; ⟨p, vw, a, by rw [upd_ne (fun e => by subst e; rw [hl] at b; cases b)]; exact b, c.put hl⟩
end Ss
namespace Ss

end Ss
namespace Ss
open PySem PySem.Spec L2
theorem Paired.putL {K : PySem.W.Frag} {H : Hp} {l : Addr} {xs ys : List V} (hl : H l = some (.lst xs)) {vs : List V} {Ls : List Look} (h : LksAt K H vs Ls) : LksAt K (upd H l (.lst ys)) vs Ls := Paired.mapP h fun _ _ z => z.put hl
end Ss

namespace L2
open PySem PySem.Spec PyProof.Rows
section
variable {prog : Program} {w : World} {A : Around} {E : Value → Shared → Prop} {s : Shared}

end
end L2
namespace L2
open PySem PySem.Spec PyProof.Rows
section
variable {prog : Program} {w : World} {A : Around} {E : Value → Shared → Prop} {s : Shared}

end

end L2

namespace Ss
open PySem PySem.Spec L2

def barredF (s : T3i) (Ls : List Look) (t0 ts : List T3i) : List (T3i × Nat × Nat) := ts.filterMap fun g => (barF s Ls t0 g).map fun b => (g, b)

def BarsK (H : Hp) (kvs : List (List Key × V)) (bs : List (T3i × Nat × Nat)) : Prop := Paired (fun (p : List Key × V) b => p.1 = key3 b.1 ∧ BarV H p.2 (some b.2)) kvs bs
theorem BarsK.mono {H H' : Hp} {kvs : List (List Key × V)} {bs : List (T3i × Nat × Nat)} (e : Same H H') (h : BarsK H kvs bs) : BarsK H' kvs bs := Paired.mapP h fun _ _ z => ⟨z.1, z.2.mono e⟩
theorem barredF_sub {s : T3i} {Ls : List Look} {t0 ts : List T3i} {x : T3i × Nat × Nat} (h : x ∈ barredF s Ls t0 ts) : x.1 ∈ ts := by
  unfold barredF at h
  obtain ⟨g, hg, e⟩ := List.mem_filterMap.mp h
  obtain ⟨b, _, rfl⟩ := Option.map_eq_some_iff.mp e
  exact hg
theorem BarsK.none {H : Hp} {g : T3i} : ∀ {kvs : List (List Key × V)} {bs : List (T3i × Nat × Nat)}, BarsK H kvs bs → (∀ x ∈ bs, x.1 ≠ g) → valV kvs (key3 g) = none
  | _, _, .nil, _ => rfl
  | _, _, .cons h t, ne => by
    rw [valV_neg (fun e => ne _ (.head _) (key3_inj (h.1.symm.trans e)))]
    exact BarsK.none t fun x hx => ne x (.tail _ hx)
theorem barredF_some {s : T3i} {Ls : List Look} {t0 ts : List T3i} {i : Nat} {g : T3i} {b : Nat × Nat} (h : ts[i]? = some g) (e : barF s Ls t0 g = some b) : barredF s Ls t0 (ts.take (i + 1)) = barredF s Ls t0 (ts.take i) ++ [(g, b)] := by
  unfold barredF
  rw [List.take_succ, h, List.filterMap_append]
  simp [e]
theorem take_apart {ts : List T3i} (hn : ts.Nodup) {i : Nat} {g : T3i} (h : ts[i]? = some g) : ∀ x ∈ ts.take i, x ≠ g := by
  rintro x hx rfl
  obtain ⟨j, hj, ej⟩ := List.getElem_of_mem hx
  rw [List.length_take] at hj
  rw [List.getElem_take] at ej
  obtain ⟨hi, ei⟩ := List.getElem?_eq_some_iff.mp h
  exact List.pairwise_iff_getElem.mp hn j i (by omega) hi (by omega) (ej.trans ei.symm)
theorem BarV.upd {H : Hp} {D : Addr} {kvs : List (List Key × V)} {o : HO} {v : V} {b : Option (Nat × Nat)} (hD : H D = some (.dT kvs)) (h : BarV H v b) : BarV (upd H D o) v b := by
  cases b with
  | none => exact h
  | some t => obtain ⟨p, a, e⟩ := h; exact ⟨p, a, by rw [upd_ne (fun z => by subst z; rw [hD] at e; cases e)]; exact e⟩
theorem BarsK.upd {H : Hp} {D : Addr} {kvs ks : List (List Key × V)} {o : HO} {bs : List (T3i × Nat × Nat)} (hD : H D = some (.dT ks)) (h : BarsK H kvs bs) : BarsK (L2.upd H D o) kvs bs := Paired.mapP h fun _ _ z => ⟨z.1, z.2.upd hD⟩
theorem BarsK.put {H : Hp} {s : T3i} {Ls : List Look} {t0 ts : List T3i} {kvs : List (List Key × V)} {i : Nat} {g : T3i} {b : Nat × Nat} {v : V} (hn : ts.Nodup) (h : BarsK H kvs (barredF s Ls t0 (ts.take i))) (hg : ts[i]? = some g) (hb : barF s Ls t0 g = some b) (hv : BarV H v (some b)) :
    BarsK H (putK kvs (key3 g) v) (barredF s Ls t0 (ts.take (i + 1))) := by
  rw [putK_new _ (h.none fun x hx => take_apart hn hg _ (barredF_sub hx)), barredF_some hg hb]
  exact Paired.snocL ⟨rfl, hv⟩ h

def BrAt (K : PySem.W.Frag) (H : Hp) (ws : List V) (bs : List (T3i × Nat × Nat)) : Prop :=
  Paired (fun v (b : T3i × Nat × Nat) => ∃ p q, v = .ref p ∧ H p = some (.tup [.ref q, .int (b.2.1 : Int), .int (b.2.2 : Int)]) ∧ H q = some (.tup (l3 b.1))) ws bs
theorem BrAt.mono {K : PySem.W.Frag} {H H' : Hp} {ws : List V} {bs : List (T3i × Nat × Nat)} (e : Same H H') (h : BrAt K H ws bs) : BrAt K H' ws bs := Paired.mapP h fun _ _ ⟨p, q, a, b, c⟩ => ⟨p, q, a, e _ _ b, e _ _ c⟩
theorem BrAt.upd {K : PySem.W.Frag} {H : Hp} {A : Addr} {o o' : HO} {ws : List V} {bs : List (T3i × Nat × Nat)} (hA : H A = some o) (no : ∀ xs, o ≠ .tup xs) (h : BrAt K H ws bs) : BrAt K (L2.upd H A o') ws bs :=
  Paired.mapP h fun _ _ ⟨p, q, a, b, c⟩ => ⟨p, q, a, by rw [upd_ne (fun z => by subst z; exact no _ (Option.some.inj (hA.symm.trans b)))]; exact b, by rw [upd_ne (fun z => by subst z; exact no _ (Option.some.inj (hA.symm.trans c)))]; exact c⟩

def dRow (b : T3i × Nat × Nat) : PyData := .tuple [d3 b.1, .int (b.2.1 : Int), .int (b.2.2 : Int)]
theorem BrAt.dp {K : PySem.W.Frag} {H : Hp} : ∀ {ws : List V} {bs : List (T3i × Nat × Nat)}, BrAt K H ws bs → DpAll K H ws (bs.map dRow)
  | _, _, .nil => .nil
  | _, _, .cons r t => by
    obtain ⟨p, q, rfl, b, c⟩ := r
    exact .cons (.tup (SqT.of b) (.cons (show T3 K H (.ref q) _ from ⟨q, rfl, c⟩).dp (.cons (.int _) (.cons (.int _) .nil)))) (BrAt.dp t)
theorem Mk.put {H : Hp} {l : Addr} {xs ys : List V} {d : Addr} {ts : List T3i} (hl : H l = some (.lst xs)) (h : Mk H d ts) : Mk (upd H l (.lst ys)) d ts :=
  let ⟨kvs, h1, h2⟩ := h; ⟨kvs, by rw [upd_ne (fun e => by subst e; rw [hl] at h1; cases h1)]; exact h1, h2⟩
end Ss

namespace Ss
open PySem PySem.Spec L2

end Ss
namespace L2
open PySem PySem.Spec PySem.W PyProof.Rows

end L2

namespace Ss
open PySem PySem.Spec L2

end Ss

namespace L2
open PySem PySem.Spec

open Classical in
noncomputable def lockL (H : Hp) (as : List Addr) (od : Addr → Obj) : Hp := fun b => if b ∈ as then (H b).map (HO.frz (od b)) else H b
open Classical in
noncomputable def freeL (H' H : Hp) (as : List Addr) : Hp := fun b => if b ∈ as then H b else H' b
theorem lockL_in {H : Hp} {as : List Addr} {od : Addr → Obj} {b : Addr} (h : b ∈ as) : lockL H as od b = (H b).map (HO.frz (od b)) := by unfold lockL; rw [if_pos h]
theorem freeL_out {H' H : Hp} {as : List Addr} {b : Addr} (h : ¬ b ∈ as) : freeL H' H as b = H' b := by unfold freeL; rw [if_neg h]
theorem Rd.same {H H' : Hp} {a : Addr} {u : HO} (s : Same H H') (h : Rd H a u) : Rd H' a u := h.elim (fun z => .inl (s _ _ z)) fun ⟨o, z⟩ => .inr ⟨o, s _ _ z⟩
theorem DGet.r {H : Hp} {a b : Addr} {kvs : List (List Key × V)} {k : List Key} (e : Rd H a (.dT kvs)) (hb : H b = some (.tup (k.map kV))) : DGet H a (.ref b) (valV kvs k) := .inr ⟨kvs, k, b, e, rfl, hb, rfl⟩

theorem nodup_of (l : List Addr) : ∃ m : List Addr, m.Nodup ∧ ∀ x, x ∈ m ↔ x ∈ l := by
  induction l with
  | nil => exact ⟨[], List.nodup_nil, fun _ => Iff.rfl⟩
  | cons a r ih =>
    obtain ⟨m, h1, h2⟩ := ih
    by_cases z : a ∈ m
    · exact ⟨m, h1, fun x => ⟨fun y => List.mem_cons_of_mem _ ((h2 x).mp y), fun y => (List.mem_cons.mp y).elim (fun e => e ▸ z) (h2 x).mpr⟩⟩
    · exact ⟨a :: m, List.nodup_cons.mpr ⟨z, h1⟩, fun x => ⟨fun y => (List.mem_cons.mp y).elim (fun e => e ▸ List.mem_cons_self) fun e => List.mem_cons_of_mem _ ((h2 x).mp e), fun y => (List.mem_cons.mp y).elim (fun e => e ▸ List.mem_cons_self) fun e => List.mem_cons_of_mem _ ((h2 x).mpr e)⟩⟩
end L2
namespace Ss
open PySem PySem.Spec L2
def LrAt (K : PySem.W.Frag) (H : Hp) (v : V) (r : Nat × T3i × List T3i) : Prop := ∃ p q la xs, v = .ref p ∧ H p = some (.tup [.int (r.1 : Int), .ref q, .ref la]) ∧ H q = some (.tup (l3 r.2.1)) ∧ H la = some (.lst xs) ∧ All3 K H xs r.2.2
theorem LrAt.mono {K : PySem.W.Frag} {H H' : Hp} {v : V} {r : Nat × T3i × List T3i} (e : Same H H') (h : LrAt K H v r) : LrAt K H' v r := let ⟨p, q, la, xs, a, b, c, d, f⟩ := h; ⟨p, q, la, xs, a, e _ _ b, e _ _ c, e _ _ d, f.mono e⟩

def LrNew (K : PySem.W.Frag) (B H : Hp) (v : V) (r : Nat × T3i × List T3i) : Prop := ∃ p q la xs, v = .ref p ∧ H p = some (.tup [.int (r.1 : Int), .ref q, .ref la]) ∧ H q = some (.tup (l3 r.2.1)) ∧ B la = some (.lst xs) ∧ All3 K B xs r.2.2
theorem LrNew.mono {K : PySem.W.Frag} {B H H' : Hp} {v : V} {r : Nat × T3i × List T3i} (e : Same H H') (h : LrNew K B H v r) : LrNew K B H' v r := let ⟨p, q, la, xs, a, b, c, d, f⟩ := h; ⟨p, q, la, xs, a, e _ _ b, e _ _ c, d, f⟩
theorem LrNew.put {K : PySem.W.Frag} {B H : Hp} {l : Addr} {xs ys : List V} {v : V} {r : Nat × T3i × List T3i} (hl : H l = some (.lst xs)) (h : LrNew K B H v r) : LrNew K B (upd H l (.lst ys)) v r :=
  let ⟨p, q, la, zs, a, b, c, d, f⟩ := h; ⟨p, q, la, zs, a, by rw [upd_ne (fun e => by subst e; rw [hl] at b; cases b)]; exact b, by rw [upd_ne (fun e => by subst e; rw [hl] at c; cases c)]; exact c, d, f⟩
theorem all3_free {K : PySem.W.Frag} {H H' : Hp} {as : List Addr} (hno : ∀ b xs, H' b = some (.tup xs) → ¬ b ∈ as) {xs : List V} {ts : List T3i} (h : All3 K H' xs ts) : All3 K (freeL H' H as) xs ts := by
  induction h with
  | nil => exact .nil
  | cons r t ih =>
    obtain ⟨p, a, b⟩ := r
    exact .cons ⟨p, a, by rw [freeL_out (hno _ _ b)]; exact b⟩ ih
theorem LrNew.free {K : PySem.W.Frag} {H H' : Hp} {as : List Addr} {od : Addr → Obj} {v : V} {r : Nat × T3i × List T3i} (hd : ∀ a ∈ as, ∃ kvs, H a = some (.dT kvs)) (s : Same (lockL H as od) H') (h : LrNew K (lockL H as od) H' v r) : LrAt K (freeL H' H as) v r := by
  have lk : ∀ b ∈ as, ∃ o u, H' b = some (.frz o u) := fun b hb => by
    obtain ⟨kvs, e⟩ := hd b hb
    exact ⟨od b, .dT kvs, s _ _ (by rw [lockL_in hb, e]; rfl)⟩
  have hT : ∀ b xs, H' b = some (.tup xs) → ¬ b ∈ as := fun b xs e z => by obtain ⟨o, u, e2⟩ := lk b z; rw [e] at e2; cases e2
  have hL : ∀ b xs, H' b = some (.lst xs) → ¬ b ∈ as := fun b xs e z => by obtain ⟨o, u, e2⟩ := lk b z; rw [e] at e2; cases e2
  obtain ⟨p, q, la, xs, a, b, c, d, f⟩ := h
  exact ⟨p, q, la, xs, a, by rw [freeL_out (hT _ _ b)]; exact b, by rw [freeL_out (hT _ _ c)]; exact c, by rw [freeL_out (hL _ _ (s _ _ d))]; exact s _ _ d, all3_free hT (f.mono s)⟩

theorem VwsAt.signs {K : PySem.W.Frag} {C : Addr} {H : Hp} {s : T3i} {t0 ts : List T3i} {vs : List V} {Ls : List Look} (h : VwsAt K C H s t0 ts vs Ls) : ∃ as : List Addr, as.Nodup ∧ (∀ a ∈ as, ∃ kvs, H a = some (.dT kvs)) ∧ ∀ (i : Nat) v L, vs[i]? = some v → Ls[i]? = some L → ∃ p dx dS dD dR la, v = .ref p ∧ dS ∈ as ∧ VwParts K C H p dx dS dD dR la s L.1 L.2 t0 ts := by
  obtain ⟨las, a, b, c, d⟩ := h
  have key : ∀ n, n ≤ Ls.length → ∃ l : List Addr, (∀ a ∈ l, ∃ kvs, H a = some (.dT kvs)) ∧ ∀ (i : Nat) v L, i < n → vs[i]? = some v → Ls[i]? = some L → ∃ p dx dS dD dR la, v = .ref p ∧ dS ∈ l ∧ VwParts K C H p dx dS dD dR la s L.1 L.2 t0 ts := by
    intro n
    induction n with
    | zero => exact fun _ => ⟨[], nofun, fun i _ _ h => absurd h (Nat.not_lt_zero _)⟩
    | succ n ih =>
      intro hn
      obtain ⟨l, h1, h2⟩ := ih (by omega)
      obtain ⟨v, hv⟩ := get_lt (l := vs) (i := n) (by omega)
      obtain ⟨L, hL⟩ := get_lt (l := Ls) (i := n) (by omega)
      obtain ⟨la, hla⟩ := get_lt (l := las) (i := n) (by omega)
      obtain ⟨q, dx, dS, dD, dR, e1, e2⟩ := c n v L la hv hL hla
      refine ⟨dS :: l, fun x hx => ?_, fun i v' L' hi g1 g2 => ?_⟩
      · rcases List.mem_cons.mp hx with z | z
        · rw [z]; exact ⟨_, e2.sg⟩
        · exact h1 x z
      · by_cases z : i = n
        · subst z
          rw [hv] at g1
          rw [hL] at g2
          cases g1
          cases g2
          exact ⟨q, dx, dS, dD, dR, la, e1, List.mem_cons_self, e2⟩
        · obtain ⟨p, dx, dS', dD, dR, la, f1, f2, f3⟩ := h2 i v' L' (by omega) g1 g2
          exact ⟨p, dx, dS', dD, dR, la, f1, List.mem_cons_of_mem _ f2, f3⟩
  obtain ⟨l, h1, h2⟩ := key Ls.length (Nat.le_refl _)
  obtain ⟨m, h3, h4⟩ := nodup_of l
  refine ⟨m, h3, fun x hx => h1 x ((h4 x).mp hx), fun i v L g1 g2 => ?_⟩
  obtain ⟨p, dx, dS, dD, dR, la, f1, f2, f3⟩ := h2 i v L (List.getElem?_eq_some_iff.mp g2).1 g1 g2
  exact ⟨p, dx, dS, dD, dR, la, f1, (h4 _).mpr f2, f3⟩
end Ss
namespace Ss
open PySem PySem.Spec L2

def NDAt (K : PySem.W.Frag) (H : Hp) (v : V) (r : Nat × T3i) : Prop := ∃ p q, v = .ref p ∧ H p = some (.tup [.int (r.1 : Int), .ref q]) ∧ H q = some (.tup (l3 r.2))
def NDs (K : PySem.W.Frag) (H : Hp) : List V → List (Nat × T3i) → Prop := Paired (NDAt K H)
theorem NDAt.mono {K : PySem.W.Frag} {H H' : Hp} {v : V} {r : Nat × T3i} (e : Same H H') (h : NDAt K H v r) : NDAt K H' v r := let ⟨p, q, a, b, c⟩ := h; ⟨p, q, a, e _ _ b, e _ _ c⟩
theorem NDs.mono {K : PySem.W.Frag} {H H' : Hp} (e : Same H H') {vs : List V} {rs : List (Nat × T3i)} (h : NDs K H vs rs) : NDs K H' vs rs := Paired.mapP h fun _ _ z => z.mono e
theorem NDAt.put {K : PySem.W.Frag} {H : Hp} {l : Addr} {xs ys : List V} {v : V} {r : Nat × T3i} (hl : H l = some (.lst xs)) (h : NDAt K H v r) : NDAt K (upd H l (.lst ys)) v r :=
  let ⟨p, q, a, b, c⟩ := h; ⟨p, q, a, by rw [upd_ne (fun e => by subst e; rw [hl] at b; cases b)]; exact b, by rw [upd_ne (fun e => by subst e; rw [hl] at c; cases c)]; exact c⟩
def dND (r : Nat × T3i) : PyData := .tuple [.int (r.1 : Int), d3 r.2]
theorem NDs.dp {K : PySem.W.Frag} {H : Hp} : ∀ {vs : List V} {rs : List (Nat × T3i)}, NDs K H vs rs → DpAll K H vs (rs.map dND)
  | _, _, .nil => .nil
  | _, _, .cons r t => by
    obtain ⟨p, q, rfl, b, c⟩ := r
    exact .cons (.tup (SqT.of b) (.cons (.int _) (.cons (show T3 K H (.ref q) _ from ⟨q, rfl, c⟩).dp .nil))) (NDs.dp t)
end Ss
namespace Ss
open PySem PySem.Spec L2
end Ss

namespace Ss
open PySem PySem.Spec L2

end Ss

namespace L2
open PySem PySem.Spec PyProof.Rows

section
variable {prog : Program} {w : World} {κ : Type} [DecidableEq κ] {knd : HeapKind prog w κ} {A : Around} {E : Value → Shared → Prop} {s : Shared}
end

section
variable {X : Cx} {pins : List (Addr × Obj)} {σ : St} {H : Hp} {s : Shared} {a b : Addr} {A : Around} {E : Value → Shared → Prop}
end

end L2
namespace L2
open PySem PySem.Spec PyProof.Rows MeetsSeq
end L2
namespace Ss
open PySem PySem.Spec L2 PyProof.Rows

end Ss
namespace L2
open PySem PySem.Spec PyProof.Rows
section
variable {prog : Program} {w : World} {A : Around} {E : Value → Shared → Prop} {s : Shared}

end

end L2

namespace Ss
open PySem PySem.Spec L2

theorem less_len {us : List T3i} {g : T3i} (h : g ∈ us) : (less us g).length < us.length := List.length_filter_lt_length_iff_exists.mpr ⟨g, h, by simp⟩

def LooseD (H : Hp) (kvs : List (List Key × V)) (M : T3i → Option (Nat × Nat)) : Prop :=
  (∃ qs : List T3i, kvs.map (·.1) = qs.map key3 ∧ qs.Nodup ∧ ∀ g, g ∈ qs ↔ (M g).isSome = true) ∧ ∀ g b, M g = some b → ∃ v, valV kvs (key3 g) = some v ∧ BarV H v (some b)
theorem LooseD.mono {H H' : Hp} {kvs : List (List Key × V)} {M : T3i → Option (Nat × Nat)} (k : ∀ b xs, H b = some (.tup xs) → H' b = some (.tup xs)) (h : LooseD H kvs M) : LooseD H' kvs M := by
  refine ⟨h.1, fun g b e => ?_⟩
  obtain ⟨v, h1, p, h2, h3⟩ := h.2 g b e
  exact ⟨v, h1, p, h2, k _ _ h3⟩
theorem keys_put_old {kvs : List (List Key × V)} {k : List Key} {v : V} (h : (valV kvs k).isSome = true) : (putK kvs k v).map (·.1) = kvs.map (·.1) := by
  unfold putK
  rw [if_pos (by rw [valV_any]; exact h), List.map_map]
  refine List.map_congr_left fun p _ => ?_
  show (if p.1 = k then (p.1, v) else p).1 = p.1
  split <;> rfl
def setM (M : T3i → Option (Nat × Nat)) (g : T3i) (o : Option (Nat × Nat)) : T3i → Option (Nat × Nat) := fun x => if x = g then o else M x
theorem setM_same {M : T3i → Option (Nat × Nat)} {g : T3i} {o : Option (Nat × Nat)} : setM M g o g = o := if_pos rfl
theorem setM_ne {M : T3i → Option (Nat × Nat)} {g x : T3i} {o : Option (Nat × Nat)} (h : x ≠ g) : setM M g o x = M x := if_neg h
theorem LooseD.put {H : Hp} {kvs : List (List Key × V)} {M : T3i → Option (Nat × Nat)} {g : T3i} {b : Nat × Nat} {v : V} (h : LooseD H kvs M) (hv : BarV H v (some b)) : LooseD H (putK kvs (key3 g) v) (setM M g (some b)) := by
  obtain ⟨⟨qs, e1, e2, e3⟩, hb⟩ := h
  refine ⟨?_, fun x c e => ?_⟩
  · by_cases hg : g ∈ qs
    · have hs : (valV kvs (key3 g)).isSome = true := by
        obtain ⟨c, hc⟩ := Option.isSome_iff_exists.mp ((e3 g).mp hg)
        obtain ⟨u, hu, _⟩ := hb g c hc
        rw [hu]; rfl
      refine ⟨qs, (keys_put_old hs).trans e1, e2, fun x => ?_⟩
      by_cases z : x = g
      · subst z; rw [setM_same]; exact ⟨fun _ => rfl, fun _ => hg⟩
      · rw [setM_ne z]; exact e3 x
    · have hs : valV kvs (key3 g) = none := by
        cases e : valV kvs (key3 g) with
        | none => rfl
        | some u =>
          exfalso
          have : (kvs.any fun kv => decide (kv.1 = key3 g)) = true := by rw [valV_any, e]; rfl
          obtain ⟨p, hp, z⟩ := List.any_eq_true.mp this
          have z : p.1 = key3 g := by simpa using z
          have : key3 g ∈ qs.map key3 := by rw [← e1, ← z]; exact List.mem_map.mpr ⟨p, hp, rfl⟩
          obtain ⟨y, hy, ey⟩ := List.mem_map.mp this
          rw [key3_inj ey] at hy
          exact hg hy
      rw [putK_new _ hs]
      refine ⟨qs ++ [g], by rw [List.map_append, List.map_append, e1]; rfl, ?_, fun x => ?_⟩
      · rw [List.nodup_append]
        exact ⟨e2, List.nodup_cons.mpr ⟨nofun, List.nodup_nil⟩, fun x hx y hy => fun z => hg (by rw [← show y = g from by simpa using hy, ← z]; exact hx)⟩
      · rw [List.mem_append, e3 x]
        by_cases z : x = g
        · subst z; rw [setM_same]; exact ⟨fun _ => rfl, fun _ => .inr List.mem_cons_self⟩
        · rw [setM_ne z]; exact ⟨fun y => y.elim id fun y => absurd (by simpa using y) z, .inl⟩
  · rw [valV_put]
    by_cases z : x = g
    · subst z
      rw [setM_same] at e
      rw [if_pos rfl]
      cases e
      exact ⟨v, rfl, hv⟩
    · rw [setM_ne z] at e
      rw [if_neg fun y => z (key3_inj y)]
      exact hb x c e
theorem LooseD.drop {H : Hp} {kvs : List (List Key × V)} {M : T3i → Option (Nat × Nat)} {g : T3i} (h : LooseD H kvs M) : LooseD H (dropK kvs (key3 g)) (setM M g none) := by
  obtain ⟨⟨qs, e1, e2, e3⟩, hb⟩ := h
  have val : ∀ x, x ≠ g → valV (dropK kvs (key3 g)) (key3 x) = valV kvs (key3 x) := fun x z => by
    unfold valV dropK
    rw [List.find?_filter]
    congr 2
    funext p
    by_cases y : p.1 = key3 x
    · rw [decide_eq_true y, decide_eq_true (show p.1 ≠ key3 g from fun w => z (key3_inj (y.symm.trans w)))]; rfl
    · simp [y]
  refine ⟨⟨qs.filter fun x => !decide (x = g), ?_, e2.filter _, fun x => ?_⟩, fun x c e => ?_⟩
  · unfold dropK
    have : ∀ (l : List (List Key × V)) (m : List T3i), l.map (·.1) = m.map key3 → (l.filter fun kv => decide (kv.1 ≠ key3 g)).map (·.1) = (m.filter fun x => !decide (x = g)).map key3 := by
      intro l
      induction l with
      | nil =>
        intro m hm
        cases m with
        | nil => rfl
        | cons _ _ => cases hm
      | cons p r ih =>
        intro m hm
        cases m with
        | nil => cases hm
        | cons y m =>
          have h1 : p.1 = key3 y := (List.cons.inj hm).1
          have h2 := ih m (List.cons.inj hm).2
          rw [List.filter_cons, List.filter_cons]
          by_cases z : y = g
          · subst z
            rw [if_neg (by simp [h1]), if_neg (by simp)]
            exact h2
          · rw [if_pos (by rw [h1]; simpa using fun w => z (key3_inj w)), if_pos (by simpa using z), List.map_cons, List.map_cons, h1, h2]
    exact this kvs qs e1
  · rw [List.mem_filter, e3 x]
    by_cases z : x = g
    · subst z; rw [setM_same]; simp
    · rw [setM_ne z]; simp [z]
  · by_cases z : x = g
    · subst z; rw [setM_same] at e; cases e
    · rw [setM_ne z] at e
      rw [val x z]
      exact hb x c e
theorem LooseD.nil {H : Hp} : LooseD H [] (fun _ => none) := ⟨⟨[], rfl, List.nodup_nil, fun _ => ⟨nofun, nofun⟩⟩, fun _ _ e => nomatch e⟩
theorem LooseD.congr {H : Hp} {kvs : List (List Key × V)} {M N : T3i → Option (Nat × Nat)} (e : ∀ g, M g = N g) (h : LooseD H kvs M) : LooseD H kvs N := by
  have : M = N := funext e
  rw [← this]; exact h

def pickN (ps : List Int) (n k : Nat) : Nat := if n < ps.length then (ps.getD n 0 % (k : Int)).toNat else 0
def carveR (s : T3i) (Ls : List Look) (ps : List Int) : Nat → List T3i → Nat → List T3i × List (T3i × Nat × Nat)
  | 0, us, _ => (us, [])
  | m + 1, us, n => match (barredF s Ls us us)[pickN ps n (barredF s Ls us us).length]? with
    | none => (us, [])
    | some b => ((carveR s Ls ps m (less us b.1) (n + 1)).1, b :: (carveR s Ls ps m (less us b.1) (n + 1)).2)
def carveF (s : T3i) (Ls : List Look) (ps : List Int) (ts : List T3i) : List T3i × List (T3i × Nat × Nat) := carveR s Ls ps ts.length ts 0
def CarveI (s : T3i) (Ls : List Look) (ps : List Int) (ts us : List T3i) (rows : List (T3i × Nat × Nat)) : Prop :=
  ∃ m, us.length ≤ m ∧ carveF s Ls ps ts = ((carveR s Ls ps m us rows.length).1, rows ++ (carveR s Ls ps m us rows.length).2)
theorem CarveI.start {s : T3i} {Ls : List Look} {ps : List Int} {ts : List T3i} : CarveI s Ls ps ts ts [] := ⟨ts.length, Nat.le_refl _, rfl⟩
theorem CarveI.turn {s : T3i} {Ls : List Look} {ps : List Int} {ts us : List T3i} {rows : List (T3i × Nat × Nat)} {b : T3i × Nat × Nat} (h : CarveI s Ls ps ts us rows) (hb : (barredF s Ls us us)[pickN ps rows.length (barredF s Ls us us).length]? = some b) : CarveI s Ls ps ts (less us b.1) (rows ++ [b]) := by
  obtain ⟨m, hm, e⟩ := h
  have hbu : b.1 ∈ us := barredF_sub (List.mem_of_getElem? hb)
  have hl := less_len hbu
  cases m with
  | zero => omega
  | succ m =>
    refine ⟨m, by omega, ?_⟩
    have e1 : carveR s Ls ps (m + 1) us rows.length = ((carveR s Ls ps m (less us b.1) (rows.length + 1)).1, b :: (carveR s Ls ps m (less us b.1) (rows.length + 1)).2) := by
      show (match (barredF s Ls us us)[pickN ps rows.length (barredF s Ls us us).length]? with | none => _ | some b => _) = _
      rw [hb]
    rw [e, e1, List.length_append, List.append_assoc]
    rfl
theorem CarveI.done {s : T3i} {Ls : List Look} {ps : List Int} {ts us : List T3i} {rows : List (T3i × Nat × Nat)} (h : CarveI s Ls ps ts us rows) (hb : barredF s Ls us us = []) : carveF s Ls ps ts = (us, rows) := by
  obtain ⟨m, hm, e⟩ := h
  have e1 : carveR s Ls ps m us rows.length = (us, []) := by
    cases m with
    | zero => rfl
    | succ m =>
      show (match (barredF s Ls us us)[pickN ps rows.length (barredF s Ls us us).length]? with | none => _ | some b => _) = _
      rw [hb]
      rfl
  rw [e, e1, List.append_nil]
end Ss
namespace Ss
open PySem PySem.Spec L2

def RowA (s : T3i) (Ls : List Look) (las : List (T3i → Addr)) (b : Addr) : Prop := ∃ (i : Nat) (L : Look) (la : T3i → Addr) (d : T3i), Ls[i]? = some L ∧ las[i]? = some la ∧ d ∈ doorsF s L.1 ∧ b = la d
structure VwsG (K : PySem.W.Frag) (C : Addr) (H : Hp) (s : T3i) (t0 : List T3i) (f : Nat → List T3i) (vs : List V) (Ls : List Look) (las : List (T3i → Addr)) : Prop where
  len : vs.length = Ls.length
  lel : las.length = Ls.length
  each : ∀ (i : Nat) v L la, vs[i]? = some v → Ls[i]? = some L → las[i]? = some la → ∃ p dx dS dD dR, v = .ref p ∧ VwParts K C H p dx dS dD dR la s L.1 L.2 t0 (f i)
  apart : ∀ (i j : Nat) L M la lb, i ≠ j → Ls[i]? = some L → Ls[j]? = some M → las[i]? = some la → las[j]? = some lb → ∀ d ∈ doorsF s L.1, ∀ e ∈ doorsF s M.1, la d ≠ lb e
theorem VwsP.g {K : PySem.W.Frag} {C : Addr} {H : Hp} {s : T3i} {t0 us : List T3i} {vs : List V} {Ls : List Look} {las : List (T3i → Addr)} (h : VwsP K C H s t0 us vs Ls las) : VwsG K C H s t0 (fun _ => us) vs Ls las := ⟨h.len, h.lel, h.each, h.apart⟩
theorem VwsG.p {K : PySem.W.Frag} {C : Addr} {H : Hp} {s : T3i} {t0 us : List T3i} {f : Nat → List T3i} {vs : List V} {Ls : List Look} {las : List (T3i → Addr)} (h : VwsG K C H s t0 f vs Ls las) (e : ∀ i, i < Ls.length → f i = us) : VwsP K C H s t0 us vs Ls las :=
  ⟨h.len, h.lel, fun i v L la h1 h2 h3 => by
    have := h.each i v L la h1 h2 h3
    rw [e i (List.getElem?_eq_some_iff.mp h2).1] at this
    exact this, h.apart⟩
theorem VwsG.rows {K : PySem.W.Frag} {C : Addr} {H : Hp} {s : T3i} {t0 : List T3i} {f : Nat → List T3i} {vs : List V} {Ls : List Look} {las : List (T3i → Addr)} (h : VwsG K C H s t0 f vs Ls las) : Lists H (RowA s Ls las) := by
  rintro b ⟨i, L, la, d, h1, h2, h3, rfl⟩
  have hi := (List.getElem?_eq_some_iff.mp h1).1
  obtain ⟨v, hv⟩ := get_lt (l := vs) (i := i) (by rw [h.len]; exact hi)
  obtain ⟨p, dx, dS, dD, dR, _, hP⟩ := h.each i v L la hv h1 h2
  obtain ⟨xs, e, _⟩ := hP.rw.2.2 d h3
  exact ⟨xs, e⟩
theorem VwsG.mono {K : PySem.W.Frag} {C : Addr} {H H' : Hp} {s : T3i} {t0 : List T3i} {f : Nat → List T3i} {vs : List V} {Ls : List Look} {las : List (T3i → Addr)} (e : Same H H') (h : VwsG K C H s t0 f vs Ls las) : VwsG K C H' s t0 f vs Ls las :=
  ⟨h.len, h.lel, fun i v L la h1 h2 h3 => let ⟨p, dx, dS, dD, dR, e1, e2⟩ := h.each i v L la h1 h2 h3; ⟨p, dx, dS, dD, dR, e1, e _ _ e2.ob, e _ _ e2.sg, e2.dr.mono e, e2.rw.mono e⟩, h.apart⟩
theorem VwParts.put {K : PySem.W.Frag} {C : Addr} {H : Hp} {p dx dS dD dR A : Addr} {lb : T3i → Addr} {s w : T3i} {cs : List Nat} {t0 us us' : List T3i} {xs xs' : List V} (h : VwParts K C H p dx dS dD dR lb s w cs t0 us) (hx : H A = some (.lst xs))
    (hr : ∀ d ∈ doorsF s w, (lb d = A ∧ All3 K H xs' (rwF s w us' d)) ∨ (lb d ≠ A ∧ rwF s w us' d = rwF s w us d)) : VwParts K C (upd H A (.lst xs')) p dx dS dD dR lb s w cs t0 us' := by
  have keep : ∀ b o, H b = some o → (∀ ys, o ≠ .lst ys) → (upd H A (.lst xs')) b = some o := fun b o e n => by
    rw [upd_ne (fun z => by rw [z, hx] at e; exact n _ (Option.some.inj e).symm)]; exact e
  obtain ⟨kvs, k1, k2⟩ := h.dr
  refine ⟨keep _ _ h.ob (fun _ z => nomatch z), keep _ _ h.sg (fun _ z => nomatch z), ⟨kvs, keep _ _ k1 (fun _ z => nomatch z), fun g hg => let ⟨v, a, b⟩ := k2 g hg; ⟨v, a, b.put hx⟩⟩, keep _ _ h.rw.1 (fun _ z => nomatch z), h.rw.2.1, fun d hd => ?_⟩
  rcases hr d hd with ⟨e1, e2⟩ | ⟨e1, e2⟩
  · exact ⟨xs', by rw [e1, upd_same], e2.put hx⟩
  · obtain ⟨ys, a, b⟩ := h.rw.2.2 d hd
    exact ⟨ys, by rw [upd_ne e1]; exact a, by rw [e2]; exact b.put hx⟩
theorem VwsG.other {K : PySem.W.Frag} {C : Addr} {H : Hp} {s : T3i} {t0 : List T3i} {f : Nat → List T3i} {vs : List V} {Ls : List Look} {las : List (T3i → Addr)} {A : Addr} {xs ys : List V} (hx : H A = some (.lst xs)) (hn : ¬ RowA s Ls las A) (h : VwsG K C H s t0 f vs Ls las) : VwsG K C (upd H A (.lst ys)) s t0 f vs Ls las := by
  refine ⟨h.len, h.lel, fun j v M lb h1 h2 h3 => ?_, h.apart⟩
  obtain ⟨p, dx, dS, dD, dR, e1, e2⟩ := h.each j v M lb h1 h2 h3
  exact ⟨p, dx, dS, dD, dR, e1, e2.put hx fun d hd => .inr ⟨fun z => hn ⟨j, M, lb, d, h2, h3, hd, z.symm⟩, rfl⟩⟩

theorem LooseD.upd {H : Hp} {D : Addr} {ks kvs : List (List Key × V)} {M : T3i → Option (Nat × Nat)} {o : HO} (hD : H D = some (.dT ks)) (h : LooseD H kvs M) : LooseD (L2.upd H D o) kvs M := h.mono fun b xs e => by rw [upd_ne (fun z => by subst z; rw [hD] at e; cases e)]; exact e
theorem LooseD.same {H H' : Hp} {kvs : List (List Key × V)} {M : T3i → Option (Nat × Nat)} (e : Same H H') (h : LooseD H kvs M) : LooseD H' kvs M := h.mono fun b xs z => e _ _ z
theorem LooseD.len {H : Hp} {kvs : List (List Key × V)} {M : T3i → Option (Nat × Nat)} {us : List T3i} (h : LooseD H kvs M) (hs : ∀ g, (M g).isSome = true → g ∈ us) : kvs.length ≤ us.length := by
  obtain ⟨⟨qs, e1, e2, e3⟩, _⟩ := h
  have hl : kvs.length = qs.length := by
    have := congrArg List.length e1
    rwa [List.length_map, List.length_map] at this
  rw [hl]
  exact nodup_len e2 fun x hx => hs x ((e3 x).mp hx)
theorem BrAt.keep {K : PySem.W.Frag} {H H' : Hp} {ws : List V} {bs : List (T3i × Nat × Nat)} (k : ∀ b xs, H b = some (.tup xs) → H' b = some (.tup xs)) (h : BrAt K H ws bs) : BrAt K H' ws bs := Paired.mapP h fun _ _ ⟨p, q, a, b, c⟩ => ⟨p, q, a, k _ _ b, k _ _ c⟩
end Ss

namespace Ss
open PySem PySem.Spec L2

structure CarveFacts (s : T3i) (Ls : List Look) (us : List T3i) (r : List T3i × List (T3i × Nat × Nat)) : Prop where
  sub : r.1.Sublist us
  mem : ∀ x, x ∈ r.1 ↔ x ∈ us ∧ ¬ x ∈ r.2.map (·.1)
  of : ∀ x ∈ r.2.map (·.1), x ∈ us
  nd : (r.2.map (·.1)).Nodup
  agree : ∀ g ∈ r.1, barF s Ls r.1 g = none
  top : ∀ A : List T3i, (∀ x ∈ A, x ∈ us) → (∀ g ∈ A, barF s Ls A g = none) → ∀ x ∈ A, x ∈ r.1
end Ss
namespace Ss
open PySem PySem.Spec L2

end Ss


namespace Ss
open PySem PySem.Spec L2 PyProof.Rows
theorem star_tup {es : List Expr} {x1} {pos : Pos} {r : List Expr} {env : Env} : starEach (.Tuple es x1 pos :: r) env = (false, eval (.Tuple es x1 pos) env) :: starEach r env := by rfl
theorem star_con {c} {j} {pos : Pos} {r : List Expr} {env : Env} : starEach (.Constant c j pos :: r) env = (false, eval (.Constant c j pos) env) :: starEach r env := by rfl
theorem pa_tup {X : Cx} {es r : List Expr} {x1} {pos : Pos} {te : TE} {t : TA} (ha : PE X (.Tuple es x1 pos) te) (hr : PA X r t) : PA X (.Tuple es x1 pos :: r) (tCons te t) := pa_cons ha hr star_tup
theorem pa_int {X : Cx} {i : Int} {j} {r : List Expr} {pos : Pos} {t : TA} (hr : PA X r t) : PA X (.Constant (.int i) j pos :: r) (tCons (tC (.int i)) t) := pa_cons pe_int hr star_con

def c3s : List Expr → Option (List T3i)
  | [] => some []
  | .Tuple [.Constant (.int a) _ _, .Constant (.int b) _ _, .Constant (.int c) _ _] _ _ :: r => (c3s r).map fun l => (a, b, c) :: l
  | _ => none
def tC3 : List T3i → TA
  | [] => tNil
  | t :: r => tCons (tTup (tCons (tC (.int t.1)) (tCons (tC (.int t.2.1)) (tCons (tC (.int t.2.2)) tNil)))) (tC3 r)
theorem pa_c3 {X : Cx} : ∀ {es : List Expr} {ts : List T3i}, c3s es = some ts → PA X es (tC3 ts)
  | [], ts, h => by
    have h : some [] = some ts := h
    cases h
    exact pa_nil
  | e :: r, ts, h => by
    unfold c3s at h
    split at h
    · rename_i z; cases z
    · rename_i a _ _ b _ _ c _ _ _ _ r' e'
      cases e'
      cases hr : c3s r with
      | none => rw [hr] at h; cases h
      | some l =>
        rw [hr] at h
        cases h
        exact pa_tup (pe_tup (pa_int (pa_int (pa_int pa_nil)))) (pa_c3 hr)
    · cases h
theorem c3_go {K : PySem.W.Frag} {σ : L2.St} : ∀ {ts : List T3i} {H : Hp} {Q : List V → Hp → Prop}, (∀ xs H', Same H H' → All3 K H' xs ts → Q xs H') → tC3 ts σ H Q
  | [], H, Q, h => h [] H (fun _ _ e => e) .nil
  | t :: r, H, Q, h => by
    refine ⟨by show 3 ≤ sizeLine; decide, fun p hp => ?_⟩
    refine c3_go (K := K) (ts := r) fun xs H' s ha => ?_
    have n : Same H (upd H p (.tup [.int t.1, .int t.2.1, .int t.2.2])) := Same.new hp
    exact h (.ref p :: xs) H' (n.trans s) (.cons ((T3.of upd_same).mono s) ha)
structure FunD (K : PySem.W.Frag) (x qual : Str) (st : Stmt) (f : Addr) (fd : FuncData) (cdv : Value) (DA : Addr) (dv : Array Value) : Prop where
  ex : ∃ (oc : Value) (od : Option Addr) (kV doc pm : Value) (an : Option Addr) (ct : Value) (osl : Array (Option Value)),
    fd = PySem.W.fnOf x qual (defArgs st) (defBody st) (defScope st) (.ref DA) kV doc pm an cdv ct ∧ K.lookup f = some ⟨oc, od, .func fd, osl⟩ ∧ PySem.W.codeIn K cdv qual = true
  kp : PySem.W.keepIn K (.ref f) = true
  df : ∃ (o : Obj) (n : Nat), K.lookup DA = some o ∧ o.data = .seq dv n
section
variable {P : Program} {w : World} {K : PySem.W.Frag} {mg : Str → Option Value} {base : Heap}
theorem FunD.ok {x qual : Str} {st : Stmt} {f : Addr} {fd : FuncData} {cdv : Value} {DA : Addr} {dv : Array Value} {N ps : List Str} {k : Nat} {sp : Sp} (F : FunD K x qual st f fd cdv DA dv) (S : FnScope N ps (defScope st)) (len : ∀ vs H Q E, sp vs H Q E → vs.length = ps.length)
    (hbody : ∀ (A : Around) (outer : List Env) (s : Shared) (H : Hp) (vs : List V) (Q : VK) (E : XK), Room k (A.deeper (envOfC qual (defScope st) s.heap.objs.size f cdv)) → sp vs H Q E →
      ∃ t, PSs (cxOf CX0 P w K mg base N qual (defScope st) f cdv A outer s H E).nox (defBody st) t ∧ t { nx := fun _ H' => Q .non H', rt := Q } (start N vs) H) : FnOk P w K mg base CX0 (k + 1) f fd ps sp := by
  obtain ⟨oc, od, kV, doc, pm, an, ct, osl, rfl, lk, hcd⟩ := F.ex
  refine fn_of lk hcd S len fun A outer s H vs Q E hr hsp => ?_
  obtain ⟨t, h, q⟩ := hbody A outer s H vs Q E hr hsp
  exact ⟨t, h.nox, q⟩
theorem FunD.binds {x qual : Str} {st : Stmt} {f : Addr} {fd : FuncData} {cdv : Value} {DA : Addr} {dv : Array Value} {ps : List Str} {ds : List Value} {n : Nat} (F : FunD K x qual st f fd cdv DA dv) (hp : ps.length = n + ds.length)
    (h : ∀ (kV doc pm : Value) (an : Option Addr) (cdv ct : Value) (us : List Value), us.length = n → ∃ k, bindArgs (PySem.W.fnOf x qual (defArgs st) (defBody st) (defScope st) (.ref DA) kV doc pm an cdv ct) ⟨us, []⟩ = seqItems? (.ref DA) >>= k ∧ k (some dv) = pure (ps.zip (us ++ ds))) : Binds K fd ps ds := by
  obtain ⟨oc, od, kV, doc, pm, an, ct, osl, rfl, lk, hcd⟩ := F.ex
  obtain ⟨o, n', h1, h2⟩ := F.df
  intro s us hK hl
  obtain ⟨k, e1, e2⟩ := h kV doc pm an cdv ct us (by rw [List.length_append, hp] at hl; omega)
  exact .of_defaults (T := DA) rfl (hK _ _ h1) h2 e1 e2
end
end Ss


namespace Ss
open PySem PySem.Spec L2
end Ss


namespace Ss
open PySem PySem.Spec L2
end Ss
namespace L2
open PySem PySem.Spec PyProof.Rows

end L2


namespace L2
open PySem PySem.Spec PyProof.Rows
section
variable {X : Cx}
end
end L2


namespace L2
open PySem PySem.Spec PyProof.Rows
section
variable {prog : Program} {w : World} {A : Around} {E : Value → Shared → Prop} {s : Shared}

end
section
variable {X : Cx} {tg : PySem.Expr}
end
end L2


namespace Ss
open PySem PySem.Spec L2
end Ss

namespace L2
open PySem PySem.Spec PyProof.Rows

section
variable {prog : Program} {w : World} {κ : Type} [DecidableEq κ] {knd : HeapKind prog w κ} {A : Around} {E : Value → Shared → Prop} {s : Shared}
end
section
variable {X : Cx} {pins : List (Addr × Obj)} {σ : St} {H : Hp} {s : Shared} {a b : Addr} {A : Around} {E : Value → Shared → Prop}
end

end L2
namespace Ss
open PySem PySem.Spec PyProof.Rows L2

section
variable {X : Cx}
end
end Ss

namespace Ss
open PySem PySem.Spec L2

abbrev Rw := T3i × Int × Int
def dRw (r : Rw) : PyData := .tuple [d3 r.1, .int r.2.1, .int r.2.2]
def PrV (K : PySem.W.Frag) (H : Hp) (v : V) (r : Rw) : Prop := ∃ p q, v = .ref p ∧ H p = some (.tup [.ref q, .int r.2.1, .int r.2.2]) ∧ H q = some (.tup (l3 r.1))
theorem PrV.mono {K : PySem.W.Frag} {H H' : Hp} {v : V} {r : Rw} (e : Same H H') (h : PrV K H v r) : PrV K H' v r := let ⟨p, q, a, b, c⟩ := h; ⟨p, q, a, e _ _ b, e _ _ c⟩
theorem PrV.put {K : PySem.W.Frag} {H : Hp} {l : Addr} {o o' : HO} {v : V} {r : Rw} (hl : H l = some o) (no : ∀ xs, o ≠ .tup xs) (h : PrV K H v r) : PrV K (L2.upd H l o') v r := by
  obtain ⟨p, q, a, b, c⟩ := h
  refine ⟨p, q, a, ?_, ?_⟩
  · rw [upd_ne fun z => no _ (Option.some.inj (by rw [← hl, ← z, b]))]; exact b
  · rw [upd_ne fun z => no _ (Option.some.inj (by rw [← hl, ← z, c]))]; exact c
def PrAt (K : PySem.W.Frag) (H : Hp) (ws : List V) (rs : List Rw) : Prop := Paired (PrV K H) ws rs
theorem PrAt.mono {K : PySem.W.Frag} {H H' : Hp} {ws : List V} {rs : List Rw} (e : Same H H') (h : PrAt K H ws rs) : PrAt K H' ws rs := Paired.mapP h fun _ _ z => z.mono e
theorem PrAt.put {K : PySem.W.Frag} {H : Hp} {l : Addr} {o o' : HO} {ws : List V} {rs : List Rw} (hl : H l = some o) (no : ∀ xs, o ≠ .tup xs) (h : PrAt K H ws rs) : PrAt K (L2.upd H l o') ws rs := Paired.mapP h fun _ _ z => z.put hl no
theorem PrV.dp {K : PySem.W.Frag} {H : Hp} {v : V} {r : Rw} (h : PrV K H v r) : Dp K H v (dRw r) := by
  obtain ⟨p, q, rfl, b, c⟩ := h
  exact .tup (SqT.of b) (.cons (show T3 K H (.ref q) r.1 from ⟨q, rfl, c⟩).dp (.cons (.int _) (.cons (.int _) .nil)))
theorem PrAt.dp {K : PySem.W.Frag} {H : Hp} : ∀ {ws : List V} {rs : List Rw}, PrAt K H ws rs → DpAll K H ws (rs.map dRw)
  | _, _, .nil => .nil
  | _, _, .cons h t => .cons h.dp (PrAt.dp t)
def toRw (b : T3i × Nat × Nat) : Rw := (b.1, (b.2.1 : Int), (b.2.2 : Int))
theorem BrAt.pr {K : PySem.W.Frag} {H : Hp} : ∀ {ws : List V} {bs : List (T3i × Nat × Nat)}, BrAt K H ws bs → PrAt K H ws (bs.map toRw)
  | _, _, .nil => .nil
  | _, _, .cons ⟨p, q, a, b, c⟩ t => .cons ⟨p, q, a, b, c⟩ (BrAt.pr t)

def sgBar (i j : Int) (a b : Nat) : Bool := if i = j then decide (a = 46) else letN a && (letN b && !decide (a = b))
def stdF (s : T3i) (Ls : List Look) (us : List T3i) (r : Rw) : Bool :=
  decide (r.1 ∈ us) && (decide (0 ≤ r.2.1 ∧ r.2.1 ≤ r.2.2 ∧ r.2.2 < (Ls.length : Int)) && (match Ls[r.2.1.toNat]?, Ls[r.2.2.toNat]? with
    | some L, some M => (seenB s L.1 us r.1 && seenB s M.1 us r.1) && sgBar r.2.1 r.2.2 (sgF s L.1 L.2 r.1) (sgF s M.1 M.2 r.1)
    | _, _ => false))
end Ss
namespace Ss
open PySem PySem.Spec L2

def SameX (l : Addr) (H H' : Hp) : Prop := ∀ b o, b ≠ l → H b = some o → H' b = some o
theorem SameX.of {l : Addr} {H H' : Hp} (h : Same H H') : SameX l H H' := fun b o _ e => h b o e
theorem SameX.trans {l : Addr} {H H' H2 : Hp} (h : SameX l H H') (e : SameX l H' H2) : SameX l H H2 := fun b o n z => e b o n (h b o n z)
theorem SameX.upd {l : Addr} {H : Hp} {o : HO} : SameX l H (L2.upd H l o) := fun b o n e => by rw [upd_ne n]; exact e
end Ss
namespace Ss
open PySem PySem.Spec L2
theorem SameX.same {l : Addr} {H H1 H2 : Hp} (hl : H l = none) (s : Same H H1) (e : SameX l H1 H2) : Same H H2 := fun b o z => e b o (fun y => by rw [y, hl] at z; cases z) (s b o z)
theorem PrAt.take {K : PySem.W.Frag} {H : Hp} : ∀ (n : Nat) {ws : List V} {rs : List Rw}, PrAt K H ws rs → PrAt K H (ws.take n) (rs.take n)
  | 0, _, _, _ => .nil
  | _ + 1, _, _, .nil => .nil
  | n + 1, _, _, .cons h t => .cons h (PrAt.take n t)
theorem All3.drop {K : PySem.W.Frag} {H : Hp} : ∀ (n : Nat) {xs : List V} {ts : List T3i}, All3 K H xs ts → All3 K H (xs.drop n) (ts.drop n)
  | 0, _, _, h => h
  | _ + 1, _, _, .nil => .nil
  | n + 1, _, _, .cons _ t => All3.drop n t
theorem All3.take {K : PySem.W.Frag} {H : Hp} : ∀ (n : Nat) {xs : List V} {ts : List T3i}, All3 K H xs ts → All3 K H (xs.take n) (ts.take n)
  | 0, _, _, _ => .nil
  | _ + 1, _, _, .nil => .nil
  | n + 1, _, _, .cons h t => .cons h (All3.take n t)
theorem PrAt.drop {K : PySem.W.Frag} {H : Hp} : ∀ (n : Nat) {ws : List V} {rs : List Rw}, PrAt K H ws rs → PrAt K H (ws.drop n) (rs.drop n)
  | 0, _, _, h => h
  | _ + 1, _, _, .nil => .nil
  | n + 1, _, _, .cons _ t => PrAt.drop n t
end Ss

namespace L2
open PySem PySem.Spec PyProof.Rows
section
variable {X : Cx}
end
end L2

namespace Ss
open PySem PySem.Spec L2

theorem hid_door {s w a b : T3i} (hw : IsWay w) (ha : inF s a = true) (hb : inF s b = true) (h : hidesF w a b = true) : doorF s w a = doorF s w b := by
  obtain ⟨m, hm, e⟩ := (hides_iff hw).mp h
  have hd := (depthF_spec hw ha).1
  have e2 : stepF (doorF s w a) w (depthF s w a + m) = b := by
    rw [← step_step, door_back, e]
  have := door_step (s := s) hw (door_in hw ha) (door_out hw ha) (m := depthF s w a + m) (by omega) (by rw [e2]; exact hb)
  rw [e2] at this
  exact this.1.symm
theorem seen_hid {s w p : T3i} {us : List T3i} (hw : IsWay w) (hin : ∀ x ∈ us, inF s x = true) (hp : p ∈ us) : seenB s w us p = true ↔ ∀ h ∈ us, hidesF w h p = false := by
  rw [seenB_iff hp]
  constructor
  · intro hs h hh
    cases e : hidesF w h p with
    | false => rfl
    | true =>
      have hd := hid_door hw (hin h hh) (hin p hp) e
      have := (hides_depth hw hd).mp e
      have := hs.2 h hh hd
      omega
  · intro hs
    refine ⟨hp, fun g hg ed => ?_⟩
    apply Classical.byContradiction
    intro z
    have := (hides_depth hw ed).mpr (by omega)
    rw [hs g hg] at this; cases this
def hidesAt (Ls : List Look) (i : Int) (h p : T3i) : Bool := match Ls[i.toNat]? with
  | some L => hidesF L.1 h p
  | none => false
def hidR (Ls : List Look) (r : Rw) (h : T3i) : Bool := hidesAt Ls r.2.1 h r.1 || hidesAt Ls r.2.2 h r.1
def goodR (s : T3i) (Ls : List Look) (r : Rw) : Bool := decide (0 ≤ r.2.1 ∧ r.2.1 ≤ r.2.2 ∧ r.2.2 < (Ls.length : Int)) && (match Ls[r.2.1.toNat]?, Ls[r.2.2.toNat]? with
    | some L, some M => sgBar r.2.1 r.2.2 (sgF s L.1 L.2 r.1) (sgF s M.1 M.2 r.1)
    | _, _ => false)
theorem std_iff {s : T3i} {Ls : List Look} {us : List T3i} {r : Rw} (hok : ∀ L ∈ Ls, LkOk s L) (hin : ∀ x ∈ us, inF s x = true) : stdF s Ls us r = true ↔ r.1 ∈ us ∧ (∀ h ∈ us, hidR Ls r h = false) ∧ goodR s Ls r = true := by
  unfold stdF goodR hidR hidesAt
  by_cases hm : r.1 ∈ us
  · by_cases hb : 0 ≤ r.2.1 ∧ r.2.1 ≤ r.2.2 ∧ r.2.2 < (Ls.length : Int)
    · obtain ⟨L, hL⟩ := get_lt (l := Ls) (i := r.2.1.toNat) (by omega)
      obtain ⟨M, hM⟩ := get_lt (l := Ls) (i := r.2.2.toNat) (by omega)
      rw [decide_eq_true hm, decide_eq_true hb, hL, hM]
      have s1 := seen_hid (hok L (List.mem_of_getElem? hL)).way hin hm
      have s2 := seen_hid (hok M (List.mem_of_getElem? hM)).way hin hm
      simp only [Bool.true_and, Bool.and_eq_true, Bool.or_eq_false_iff]
      constructor
      · rintro ⟨⟨h1, h2⟩, h3⟩
        exact ⟨hm, fun h hh => ⟨s1.mp h1 h hh, s2.mp h2 h hh⟩, h3⟩
      · rintro ⟨_, h2, h3⟩
        exact ⟨⟨s1.mpr fun h hh => (h2 h hh).1, s2.mpr fun h hh => (h2 h hh).2⟩, h3⟩
    · rw [decide_eq_false hb]
      simp
  · rw [decide_eq_false hm]
    simp [hm]

def FL (s : T3i) (Ls : List Look) : List T3i → List Rw → Prop
  | _, [] => True
  | us, r :: rs => stdF s Ls us r = true ∧ FL s Ls (less us r.1) rs
section
variable {s : T3i} {Ls : List Look}
theorem FL.places (hok : ∀ L ∈ Ls, LkOk s L) : ∀ {rs : List Rw} {us : List T3i}, (∀ x ∈ us, inF s x = true) → FL s Ls us rs → (∀ r ∈ rs, r.1 ∈ us) ∧ (rs.map (·.1)).Nodup ∧ rs.Pairwise (fun a b => hidR Ls a b.1 = false) ∧ ∀ r ∈ rs, hidR Ls r r.1 = false
  | [], us, _, _ => ⟨nofun, List.nodup_nil, .nil, nofun⟩
  | r :: rs, us, hin, h => by
    obtain ⟨h1, h2, _⟩ := (std_iff hok hin).mp h.1
    obtain ⟨a, b, c, d⟩ := FL.places hok (us := less us r.1) (fun x hx => hin x (mem_less.mp hx).1) h.2
    refine ⟨fun y hy => ?_, ?_, ?_, fun y hy => ?_⟩
    · rcases List.mem_cons.mp hy with z | z
      · rw [z]; exact h1
      · exact (mem_less.mp (a y z)).1
    · rw [List.map_cons]
      refine List.nodup_cons.mpr ⟨fun z => ?_, b⟩
      obtain ⟨y, hy, e⟩ := List.mem_map.mp z
      exact (mem_less.mp (a y hy)).2 e
    · exact List.pairwise_cons.mpr ⟨fun y hy => h2 _ (mem_less.mp (a y hy)).1, c⟩
    · rcases List.mem_cons.mp hy with z | z
      · rw [z]; exact h2 _ h1
      · exact d y z

theorem FL.never (hok : ∀ L ∈ Ls, LkOk s L) {h : T3i} : ∀ {rs : List Rw} {us : List T3i}, (∀ x ∈ us, inF s x = true) → FL s Ls us rs → h ∈ us → ¬ h ∈ rs.map (·.1) → ∀ r ∈ rs, hidR Ls r h = false
  | [], us, _, _, _, _, r, hr => by cases hr
  | q :: rs, us, hin, hf, hh, hn, r, hr => by
    rw [List.map_cons] at hn
    obtain ⟨_, h2, _⟩ := (std_iff hok hin).mp hf.1
    rcases List.mem_cons.mp hr with z | z
    · rw [z]; exact h2 h hh
    · exact FL.never hok (us := less us q.1) (fun x hx => hin x (mem_less.mp hx).1) hf.2 (mem_less.mpr ⟨hh, fun e => hn (by rw [e]; exact List.mem_cons_self)⟩) (fun e => hn (List.mem_cons_of_mem _ e)) r z

theorem FL.some (hok : ∀ L ∈ Ls, LkOk s L) {ts : List T3i} (hts : ∀ x ∈ ts, inF s x = true) {P : T3i → Bool} : ∀ {rs : List Rw} {us us' : List T3i}, FL s Ls us rs → (∀ h ∈ us, h ∈ us') → (∀ h ∈ us', h ∈ ts) → (∀ h ∈ us', h ∈ us ∨ P h = false) → (∀ r ∈ rs, P r.1 = true → ∀ h ∈ ts, hidR Ls r h = true → P h = true) → FL s Ls us' (rs.filter fun r => P r.1)
  | [], us, us', _, _, _, _, _ => trivial
  | r :: rs, us, us', hf, h1, h2, h3, hc => by
    have hin' : ∀ x ∈ us', inF s x = true := fun x hx => hts x (h2 x hx)
    obtain ⟨a1, a2, a3⟩ := (std_iff hok (fun x hx => hin' x (h1 x hx))).mp hf.1
    rw [List.filter_cons]
    cases e : P r.1 with
    | true =>
      rw [if_pos rfl]
      refine ⟨(std_iff hok hin').mpr ⟨h1 _ a1, fun h hh => ?_, a3⟩, ?_⟩
      · rcases h3 h hh with z | z
        · exact a2 h z
        · cases e2 : hidR Ls r h with
          | false => rfl
          | true => rw [hc r List.mem_cons_self e h (h2 h hh) e2] at z; cases z
      · refine FL.some hok hts hf.2 (fun h hh => ?_) (fun h hh => h2 h (mem_less.mp hh).1) (fun h hh => ?_) fun q hq => hc q (List.mem_cons_of_mem _ hq)
        · obtain ⟨b1, b2⟩ := mem_less.mp hh
          exact mem_less.mpr ⟨h1 h b1, b2⟩
        · obtain ⟨b1, b2⟩ := mem_less.mp hh
          exact (h3 h b1).imp (fun z => mem_less.mpr ⟨z, b2⟩) id
    | false =>
      rw [if_neg Bool.false_ne_true]
      refine FL.some hok hts hf.2 (fun h hh => h1 h (mem_less.mp hh).1) h2 (fun h hh => ?_) fun q hq => hc q (List.mem_cons_of_mem _ hq)
      by_cases z : h = r.1
      · rw [z]; exact .inr e
      · exact (h3 h hh).imp (fun y => mem_less.mpr ⟨y, z⟩) id

variable {ts : List T3i}
end
end Ss
namespace Ss
open PySem PySem.Spec L2
end Ss
namespace Ss
open PySem PySem.Spec L2
end Ss
namespace Ss
open PySem PySem.Spec L2
theorem FL.ix {s : T3i} {Ls : List Look} : ∀ {rs : List Rw} {us : List T3i}, FL s Ls us rs → ∀ r ∈ rs, (0 ≤ r.2.1 ∧ r.2.1 < (Ls.length : Int)) ∧ (0 ≤ r.2.2 ∧ r.2.2 < (Ls.length : Int))
  | [], _, _, r, hr => by cases hr
  | q :: rs, us, h, r, hr => by
    rcases List.mem_cons.mp hr with z | z
    · subst z
      have := h.1
      unfold stdF at this
      have := of_decide_eq_true (Bool.and_eq_true_iff.mp (Bool.and_eq_true_iff.mp this).2).1
      omega
    · exact FL.ix h.2 r z
end Ss

namespace L2
open PySem PySem.Spec PyProof.Rows

end L2

namespace Ss
open PySem PySem.Spec L2

def KTup (K : PySem.W.Frag) (a : Addr) (xs : List V) : Prop := ∃ (o : Obj) (its : Array Value) (n : Nat), K.lookup a = some o ∧ o.cls = .type "tuple" ∧ o.data = .seq its n ∧ its.size ≤ sizeLine ∧ Vals xs its.toList
theorem KTup.q {K : PySem.W.Frag} {H : Hp} {a : Addr} {xs : List V} (h : KTup K a xs) : SqT K H a xs := .inr h
def Q3 (K : PySem.W.Frag) (H : Hp) (v : V) (t : T3i) : Prop := ∃ p, v = .ref p ∧ SqT K H p (l3 t)
theorem Q3.mono {K : PySem.W.Frag} {H H' : Hp} {v : V} {t : T3i} (s : Same H H') (h : Q3 K H v t) : Q3 K H' v t := let ⟨p, e, q⟩ := h; ⟨p, e, s.tup q⟩
theorem T3.q3 {K : PySem.W.Frag} {H : Hp} {v : V} {t : T3i} (h : T3 K H v t) : Q3 K H v t := let ⟨p, e, q⟩ := h; ⟨p, e, SqT.of q⟩
theorem Q3.b {K : PySem.W.Frag} {H : Hp} {v : V} {t : T3i} (h : Q3 K H v t) : B3 K H v t := let ⟨p, e, q⟩ := h; ⟨p, true, e, q⟩
theorem Q3.dp {K : PySem.W.Frag} {H : Hp} {v : V} {t : T3i} (h : Q3 K H v t) : Dp K H v (d3 t) := by
  obtain ⟨p, rfl, q⟩ := h
  exact .tup q (.cons (.int _) (.cons (.int _) (.cons (.int _) .nil)))
abbrev Mv := T3i × T3i
def dMv (m : Mv) : PyData := .tuple [d3 m.1, d3 m.2]
def MvAt (K : PySem.W.Frag) (H : Hp) (v : V) (m : Mv) : Prop := ∃ p vo vt, v = .ref p ∧ SqT K H p [vo, vt] ∧ Q3 K H vo m.1 ∧ Q3 K H vt m.2
theorem MvAt.mono {K : PySem.W.Frag} {H H' : Hp} {v : V} {m : Mv} (s : Same H H') (h : MvAt K H v m) : MvAt K H' v m := let ⟨p, vo, vt, e, q, a, b⟩ := h; ⟨p, vo, vt, e, s.tup q, a.mono s, b.mono s⟩
theorem MvAt.dp {K : PySem.W.Frag} {H : Hp} {v : V} {m : Mv} (h : MvAt K H v m) : Dp K H v (dMv m) := by
  obtain ⟨p, vo, vt, rfl, q, a, b⟩ := h
  exact .tup q (.cons a.dp (.cons b.dp .nil))
theorem dok_mv (m : Mv) : Dok 2 (dMv m) := .tuple (by show 2 ≤ 1000; decide) fun d hd => by
  have hd : d = d3 m.1 ∨ d = d3 m.2 := by simpa using hd
  rcases hd with e | e <;> (rw [e]; exact Dok.d3 _)
def ord3 : List T3i := [(0, 1, 2), (0, 2, 1), (1, 0, 2), (1, 2, 0), (2, 0, 1), (2, 1, 0)]
def Bit (b : Int) : Prop := b = 0 ∨ b = 1
structure IsMove (m : Mv) : Prop where
  ord : m.1 ∈ ord3
  bits : Bit m.2.1 ∧ Bit m.2.2.1 ∧ Bit m.2.2.2
theorem ord_cases {o : T3i} (h : o ∈ ord3) : o = (0, 1, 2) ∨ o = (0, 2, 1) ∨ o = (1, 0, 2) ∨ o = (1, 2, 0) ∨ o = (2, 0, 1) ∨ o = (2, 1, 0) := by
  simpa [ord3] using h
theorem ord_bd {o : T3i} (h : o ∈ ord3) {i : Nat} (hi : i < 3) : 0 ≤ get3 o i ∧ get3 o i < 3 := by
  rcases ord_cases h with rfl | rfl | rfl | rfl | rfl | rfl <;> (match i, hi with | 0, _ => decide | 1, _ => decide | 2, _ => decide)
theorem bit_get {t : T3i} (h : Bit t.1 ∧ Bit t.2.1 ∧ Bit t.2.2) (i : Nat) : Bit (get3 t i) := match i with
  | 0 => h.1
  | 1 => h.2.1
  | _ + 2 => h.2.2
def mv1 (s : T3i) (i b : Int) (p : T3i) : Int := if b = 0 then get3 p i.toNat else get3 s i.toNat - 1 - get3 p i.toNat
def sg1 (i b : Int) (w : T3i) : Int := if b = 0 then get3 w i.toNat else -get3 w i.toNat
def mvP (s : T3i) (m : Mv) (p : T3i) : T3i := (mv1 s m.1.1 m.2.1 p, mv1 s m.1.2.1 m.2.2.1 p, mv1 s m.1.2.2 m.2.2.2 p)
def mvS (m : Mv) (s : T3i) : T3i := (get3 s m.1.1.toNat, get3 s m.1.2.1.toNat, get3 s m.1.2.2.toNat)
def mvW (m : Mv) (w : T3i) : T3i := (sg1 m.1.1 m.2.1 w, sg1 m.1.2.1 m.2.2.1 w, sg1 m.1.2.2 m.2.2.2 w)
theorem mvP_get (s : T3i) (m : Mv) (p : T3i) (i : Nat) : get3 (mvP s m p) i = mv1 s (get3 m.1 i) (get3 m.2 i) p := match i with
  | 0 => rfl
  | 1 => rfl
  | _ + 2 => rfl
theorem mvS_get (m : Mv) (s : T3i) (i : Nat) : get3 (mvS m s) i = get3 s (get3 m.1 i).toNat := match i with
  | 0 => rfl
  | 1 => rfl
  | _ + 2 => rfl
theorem mvW_get (m : Mv) (w : T3i) (i : Nat) : get3 (mvW m w) i = sg1 (get3 m.1 i) (get3 m.2 i) w := match i with
  | 0 => rfl
  | 1 => rfl
  | _ + 2 => rfl
theorem t3_ext {a b : T3i} (h : ∀ i, i < 3 → get3 a i = get3 b i) : a = b := by
  obtain ⟨x, y, z⟩ := a
  obtain ⟨x', y', z'⟩ := b
  have h0 : x = x' := h 0 (by decide)
  have h1 : y = y' := h 1 (by decide)
  have h2 : z = z' := h 2 (by decide)
  rw [h0, h1, h2]
theorem at_l3 {t : T3i} {i : Int} (h0 : 0 ≤ i) (h1 : i < 3) : atI (l3 t) i = some (.int (get3 t i.toNat)) := by
  have : i = 0 ∨ i = 1 ∨ i = 2 := by omega
  rcases this with rfl | rfl | rfl <;> rfl

end Ss
namespace Ss
open PySem PySem.Spec L2
theorem pt_truthK {X : Cx} {K : PySem.W.Frag} {a : Expr} {ta : TE} (hK : X.K = K) (ha : PE X a ta) (he : ∀ whole, isTrue a X.env whole = (do let v ← whole; standAt a.pos; holding [v] (truthy v))) :
    PT X a (fun σ H Q => ta σ H fun x H' => ∃ k, TruV K x H' k ∧ Q k H') := by
  subst hK
  exact pt_truth ha he

structure PAllM (A : List Expr) (t : TA) : Prop where
  all : ∀ X : Cx, PA X A t
theorem PAllM.at {A : List Expr} {t : TA} {X : Cx} (h : PAllM A t) : PA X A t := h.all X
end Ss

namespace Ss
open PySem PySem.Spec L2

section
variable {s w : T3i} {m : Mv}
end
end Ss

namespace L2
open PySem PySem.Spec PyProof.Rows
section
variable {prog : Program} {w : World} {A : Around} {R : Result → Shared → Prop} {s : Shared} {elt t0 i0 t1 i1 t2 i2 t3 i3 : Expr} {ifs0 ifs1 ifs2 ifs3 : List Expr} {scope : Scope} {pos : Pos} {it acc : Value} {env : Env}

end
section
variable {X : Cx}

end
end L2

namespace Ss
open PySem PySem.Spec L2

def KT3s (K : PySem.W.Frag) (a : Addr) (ts : List T3i) : Prop := ∃ ps : List Addr, KTup K a (ps.map V.ref) ∧ Paired (fun (p : Addr) (t : T3i) => KTup K p (l3 t)) ps ts
theorem KT3s.len {K : PySem.W.Frag} {a : Addr} {ts : List T3i} (h : KT3s K a ts) : ∃ xs : List V, (∀ H, SqT K H a xs) ∧ xs.length = ts.length ∧ ∀ (i : Nat) (x : V) (H : Hp), xs[i]? = some x → ∃ t, ts[i]? = some t ∧ Q3 K H x t := by
  obtain ⟨ps, h1, h2⟩ := h
  refine ⟨ps.map V.ref, fun H => h1.q, by rw [List.length_map]; exact Paired.length h2, fun i x H e => ?_⟩
  rw [List.getElem?_map] at e
  obtain ⟨p, hp, rfl⟩ := Option.map_eq_some_iff.mp e
  obtain ⟨t, ht, q⟩ := Paired.getL h2 hp
  exact ⟨t, ht, p, rfl, q.q⟩

def bits3 (n : Nat) : T3i := (((n / 4 % 2 : Nat) : Int), ((n / 2 % 2 : Nat) : Int), ((n % 2 : Nat) : Int))
def allMv : List Mv := ord3.flatMap fun o => (List.range 8).map fun n => (o, bits3 n)
def MvsAt (K : PySem.W.Frag) (H : Hp) : List V → List Mv → Prop := Paired (MvAt K H)
theorem MvsAt.mono {K : PySem.W.Frag} {H H' : Hp} {xs : List V} {ms : List Mv} (s : Same H H') (h : MvsAt K H xs ms) : MvsAt K H' xs ms := Paired.mapP h fun _ _ z => z.mono s
theorem MvsAt.snoc {K : PySem.W.Frag} {H : Hp} {xs : List V} {ms : List Mv} {x : V} {m : Mv} (h : MvsAt K H xs ms) (z : MvAt K H x m) : MvsAt K H (xs ++ [x]) (ms ++ [m]) := Paired.snocL z h
theorem MvsAt.dp {K : PySem.W.Frag} {H : Hp} : ∀ {xs : List V} {ms : List Mv}, MvsAt K H xs ms → DpAll K H xs (ms.map dMv)
  | _, _, .nil => .nil
  | _, _, .cons r t => .cons r.dp (MvsAt.dp t)
theorem SqT.put {K : PySem.W.Frag} {H : Hp} {l a : Addr} {o : HO} {ys xs : List V} (hl : H l = some (.lst ys)) (h : SqT K H a xs) : SqT K (upd H l o) a xs := by
  have ne : ∀ o', o' ≠ .lst ys → H a = some o' → upd H l o a = some o' := fun o' n e => by
    rw [upd_ne fun z => ?_]
    · exact e
    · rw [z, hl] at e; exact n (Option.some.inj e).symm
  rcases h with (h | ⟨u, h⟩) | h
  · exact .inl (.inl (ne _ (by intro z; cases z) h))
  · exact .inl (.inr ⟨u, ne _ (by intro z; cases z) h⟩)
  · exact .inr h
theorem Q3.put {K : PySem.W.Frag} {H : Hp} {l : Addr} {o : HO} {ys : List V} {v : V} {t : T3i} (hl : H l = some (.lst ys)) (h : Q3 K H v t) : Q3 K (upd H l o) v t := let ⟨p, e, q⟩ := h; ⟨p, e, SqT.put hl q⟩
theorem MvAt.put {K : PySem.W.Frag} {H : Hp} {l : Addr} {o : HO} {ys : List V} {v : V} {m : Mv} (hl : H l = some (.lst ys)) (h : MvAt K H v m) : MvAt K (upd H l o) v m := let ⟨p, vo, vt, e, q, a, b⟩ := h; ⟨p, vo, vt, e, SqT.put hl q, a.put hl, b.put hl⟩
theorem MvsAt.put {K : PySem.W.Frag} {H : Hp} {l : Addr} {o : HO} {ys : List V} {xs : List V} {ms : List Mv} (hl : H l = some (.lst ys)) (h : MvsAt K H xs ms) : MvsAt K (upd H l o) xs ms := Paired.mapP h fun _ _ z => z.put hl
theorem MvsAt.length {K : PySem.W.Frag} {H : Hp} {xs : List V} {ms : List Mv} (h : MvsAt K H xs ms) : xs.length = ms.length := Paired.length h
def eight (o : T3i) (n : Nat) : List Mv := (List.range n).map fun n => (o, bits3 n)
theorem eight_succ (o : T3i) (n : Nat) : eight o (n + 1) = eight o n ++ [(o, bits3 n)] := by unfold eight; rw [List.range_succ, List.map_append]; rfl
theorem eight_len (o : T3i) (n : Nat) : (eight o n).length = n := by unfold eight; rw [List.length_map, List.length_range]
def pairMv (i j : Nat) : List Mv := if i = j then [] else (List.range 8).map fun n => (((i : Int), (j : Int), (3 : Int) - i - j), bits3 n)
def rowMv (i n : Nat) : List Mv := (List.range n).flatMap (pairMv i)
def tabMv (n : Nat) : List Mv := (List.range n).flatMap fun i => rowMv i 3
theorem tab_all : tabMv 3 = allMv := by decide +kernel
theorem rowMv_succ (i j : Nat) : rowMv i (j + 1) = rowMv i j ++ pairMv i j := by unfold rowMv; rw [List.range_succ, List.flatMap_append]; simp
theorem tabMv_succ (i : Nat) : tabMv (i + 1) = tabMv i ++ rowMv i 3 := by unfold tabMv; rw [List.range_succ, List.flatMap_append]; simp
theorem pairMv_len (i j : Nat) : (pairMv i j).length ≤ 8 := by
  unfold pairMv; split
  · exact Nat.zero_le _
  · rw [List.length_map, List.length_range]; omega
theorem rowMv_len8 (i : Nat) : ∀ j, (rowMv i j).length ≤ 8 * j
  | 0 => Nat.zero_le _
  | j + 1 => by rw [rowMv_succ, List.length_append]; have := rowMv_len8 i j; have := pairMv_len i j; omega
theorem rowMv_len (i j : Nat) (h : j ≤ 3) : (rowMv i j).length ≤ 48 := by have := rowMv_len8 i j; omega
theorem tabMv_len24 : ∀ i, (tabMv i).length ≤ 24 * i
  | 0 => Nat.zero_le _
  | i + 1 => by rw [tabMv_succ, List.length_append]; have := tabMv_len24 i; have := rowMv_len8 i 3; omega
theorem tabMv_len (i : Nat) (h : i ≤ 2) : (tabMv i).length ≤ 48 := by have := tabMv_len24 i; omega
end Ss

namespace Ss
open PySem PySem.Spec L2

def mvA (m n : Mv) : Mv := ((get3 m.1 n.1.1.toNat, get3 m.1 n.1.2.1.toNat, get3 m.1 n.1.2.2.toNat), ((get3 m.2 n.1.1.toNat + n.2.1) % 2, (get3 m.2 n.1.2.1.toNat + n.2.2.1) % 2, (get3 m.2 n.1.2.2.toNat + n.2.2.2) % 2))
theorem mem_allMv {m : Mv} : m ∈ allMv ↔ IsMove m := by
  constructor
  · intro h
    obtain ⟨o, ho, h⟩ := List.mem_flatMap.mp h
    obtain ⟨n, _, rfl⟩ := List.mem_map.mp h
    refine ⟨ho, ?_, ?_, ?_⟩
    · show Bit (((n / 4 % 2 : Nat)) : Int); unfold Bit; omega
    · show Bit (((n / 2 % 2 : Nat)) : Int); unfold Bit; omega
    · show Bit (((n % 2 : Nat)) : Int); unfold Bit; omega
  · rintro ⟨ho, h1, h2, h3⟩
    obtain ⟨o, b1, b2, b3⟩ := m
    refine List.mem_flatMap.mpr ⟨o, ho, List.mem_map.mpr ?_⟩
    have h1 : b1 = 0 ∨ b1 = 1 := h1
    have h2 : b2 = 0 ∨ b2 = 1 := h2
    have h3 : b3 = 0 ∨ b3 = 1 := h3
    refine ⟨(4 * b1 + 2 * b2 + b3).toNat, List.mem_range.mpr (by omega), ?_⟩
    rcases h1 with rfl | rfl <;> rcases h2 with rfl | rfl <;> rcases h3 with rfl | rfl <;> rfl
theorem mvA_get1 (m n : Mv) (i : Nat) : get3 (mvA m n).1 i = get3 m.1 (get3 n.1 i).toNat := match i with
  | 0 => rfl
  | 1 => rfl
  | _ + 2 => rfl
theorem mvA_get2 (m n : Mv) (i : Nat) : get3 (mvA m n).2 i = (get3 m.2 (get3 n.1 i).toNat + get3 n.2 i) % 2 := match i with
  | 0 => rfl
  | 1 => rfl
  | _ + 2 => rfl
theorem mvA_ord {m n : Mv} (hm : m.1 ∈ ord3) (hn : n.1 ∈ ord3) : (mvA m n).1 ∈ ord3 := by
  show (get3 m.1 n.1.1.toNat, get3 m.1 n.1.2.1.toNat, get3 m.1 n.1.2.2.toNat) ∈ ord3
  rcases ord_cases hm with e | e | e | e | e | e <;> rcases ord_cases hn with f | f | f | f | f | f <;> rw [e, f] <;> decide
theorem bit_two' (n : Int) : Bit (n % 2) := by
  have := Int.emod_nonneg n (show (2 : Int) ≠ 0 by decide)
  have := Int.emod_lt_of_pos n (show (0 : Int) < 2 by decide)
  unfold Bit
  omega
theorem mvA_move {m n : Mv} (hm : IsMove m) (hn : IsMove n) : IsMove (mvA m n) := ⟨mvA_ord hm.ord hn.ord, bit_two' _, bit_two' _, bit_two' _⟩
theorem flip_flip {a p b c : Int} (hb : Bit b) (hc : Bit c) : (if c = 0 then (if b = 0 then p else a - 1 - p) else a - 1 - (if b = 0 then p else a - 1 - p)) = if (b + c) % 2 = 0 then p else a - 1 - p := by
  rcases hb with rfl | rfl <;> rcases hc with rfl | rfl <;> simp <;> omega
theorem mvA_P {m n : Mv} (hm : IsMove m) (hn : IsMove n) (s p : T3i) : mvP (mvS m s) n (mvP s m p) = mvP s (mvA m n) p := by
  refine t3_ext fun i hi => ?_
  rw [mvP_get, mvP_get, mvA_get1, mvA_get2]
  unfold mv1
  rw [mvS_get, mvP_get]
  exact flip_flip (bit_get hm.bits _) (bit_get hn.bits _)
theorem neg_neg' {x b c : Int} (hb : Bit b) (hc : Bit c) : (if c = 0 then (if b = 0 then x else -x) else -(if b = 0 then x else -x)) = if (b + c) % 2 = 0 then x else -x := by
  rcases hb with rfl | rfl <;> rcases hc with rfl | rfl <;> simp
theorem mvA_W {m n : Mv} (hm : IsMove m) (hn : IsMove n) (w : T3i) : mvW n (mvW m w) = mvW (mvA m n) w := by
  refine t3_ext fun i hi => ?_
  rw [mvW_get, mvW_get, mvA_get1, mvA_get2]
  unfold sg1
  rw [mvW_get]
  exact neg_neg' (bit_get hm.bits _) (bit_get hn.bits _)
def ixO (o : T3i) (i : Int) : Int := if o.1 = i then 0 else if o.2.1 = i then 1 else 2
def mvB (m : Mv) : Mv := ((ixO m.1 0, ixO m.1 1, ixO m.1 2), (get3 m.2 (ixO m.1 0).toNat, get3 m.2 (ixO m.1 1).toNat, get3 m.2 (ixO m.1 2).toNat))
def mv0 : Mv := ((0, 1, 2), (0, 0, 0))
theorem mvB_move {m : Mv} (hm : IsMove m) : IsMove (mvB m) := by
  refine ⟨?_, bit_get hm.bits _, bit_get hm.bits _, bit_get hm.bits _⟩
  show (ixO m.1 0, ixO m.1 1, ixO m.1 2) ∈ ord3
  rcases ord_cases hm.ord with e | e | e | e | e | e <;> rw [e] <;> decide
theorem bit_add {b : Int} (h : Bit b) : (b + b) % 2 = 0 := by unfold Bit at h; omega
theorem mvB_A {m : Mv} (hm : IsMove m) : mvA m (mvB m) = mv0 ∧ mvA (mvB m) m = mv0 := by
  obtain ⟨h1, h2, h3⟩ := hm.bits
  have e := ord_cases hm.ord
  obtain ⟨o, b1, b2, b3⟩ := m
  have e : o = (0, 1, 2) ∨ o = (0, 2, 1) ∨ o = (1, 0, 2) ∨ o = (1, 2, 0) ∨ o = (2, 0, 1) ∨ o = (2, 1, 0) := e
  have f1 : (b1 + b1) % 2 = 0 := bit_add h1
  have f2 : (b2 + b2) % 2 = 0 := bit_add h2
  have f3 : (b3 + b3) % 2 = 0 := bit_add h3
  rcases e with rfl | rfl | rfl | rfl | rfl | rfl
  · exact ⟨show (((0 : Int), (1 : Int), (2 : Int)), ((b1 + b1) % 2, (b2 + b2) % 2, (b3 + b3) % 2)) = mv0 by rw [f1, f2, f3]; rfl, show (((0 : Int), (1 : Int), (2 : Int)), ((b1 + b1) % 2, (b2 + b2) % 2, (b3 + b3) % 2)) = mv0 by rw [f1, f2, f3]; rfl⟩
  · exact ⟨show (((0 : Int), (1 : Int), (2 : Int)), ((b1 + b1) % 2, (b3 + b3) % 2, (b2 + b2) % 2)) = mv0 by rw [f1, f2, f3]; rfl, show (((0 : Int), (1 : Int), (2 : Int)), ((b1 + b1) % 2, (b2 + b2) % 2, (b3 + b3) % 2)) = mv0 by rw [f1, f2, f3]; rfl⟩
  all_goals constructor <;> (unfold mvA mvB mv0; simp only [Prod.mk.injEq]; refine ⟨⟨by decide, by decide, by decide⟩, ?_, ?_, ?_⟩ <;> (first | exact f1 | exact f2 | exact f3))
abbrev Fm := T3i × List T3i
def ltL : List T3i → List T3i → Bool
  | [], [] => false
  | [], _ :: _ => true
  | _ :: _, [] => false
  | a :: as, b :: bs => if a = b then ltL as bs else lt3 a b
def ltF (f g : Fm) : Bool := if f.1 = g.1 then ltL f.2 g.2 else lt3 f.1 g.1
theorem ltL_irr : ∀ l, ltL l l = false
  | [] => rfl
  | a :: as => by show (if a = a then ltL as as else lt3 a a) = false; rw [if_pos rfl]; exact ltL_irr as
theorem ltF_irr (f : Fm) : ltF f f = false := by unfold ltF; rw [if_pos rfl]; exact ltL_irr _
theorem ltL_tri : ∀ a b, ltL a b = true ∨ a = b ∨ ltL b a = true
  | [], [] => .inr (.inl rfl)
  | [], _ :: _ => .inl rfl
  | _ :: _, [] => .inr (.inr rfl)
  | a :: as, b :: bs => by
    show (if a = b then ltL as bs else lt3 a b) = true ∨ _ ∨ (if b = a then ltL bs as else lt3 b a) = true
    by_cases e : a = b
    · subst e
      rw [if_pos rfl, if_pos rfl]
      rcases ltL_tri as bs with h | h | h
      · exact .inl h
      · exact .inr (.inl (by rw [h]))
      · exact .inr (.inr h)
    · rw [if_neg e, if_neg fun z => e z.symm]
      rcases lt3_tri a b with h | h | h
      · exact .inl h
      · exact absurd h e
      · exact .inr (.inr h)
theorem ltL_trans : ∀ {a b c}, ltL a b = true → ltL b c = true → ltL a c = true
  | _, [], [], _, h => by cases h
  | [], [], _ :: _, h, _ => by cases h
  | _ :: _, [], _, h, _ => by cases h
  | [], _ :: _, [], _, h => by cases h
  | _ :: _, _ :: _, [], _, h => by cases h
  | [], _ :: _, _ :: _, _, _ => rfl
  | a :: as, b :: bs, c :: cs, k1, k2 => by
    have h1 : (if a = b then ltL as bs else lt3 a b) = true := k1
    have h2 : (if b = c then ltL bs cs else lt3 b c) = true := k2
    clear k1 k2
    show (if a = c then ltL as cs else lt3 a c) = true
    by_cases e1 : a = b
    · rw [if_pos e1] at h1
      subst e1
      by_cases e2 : a = c
      · rw [if_pos e2] at h2 ⊢; exact ltL_trans h1 h2
      · rw [if_neg e2] at h2 ⊢; exact h2
    · rw [if_neg e1] at h1
      by_cases e2 : b = c
      · subst e2; rw [if_neg e1]; exact h1
      · rw [if_neg e2] at h2
        have := lt3_trans h1 h2
        rw [if_neg fun z => by rw [z] at this; exact lt3_irr _ this]
        exact this
theorem ltF_tri (f g : Fm) : ltF f g = true ∨ f = g ∨ ltF g f = true := by
  unfold ltF
  by_cases e : f.1 = g.1
  · rw [if_pos e, if_pos e.symm]
    rcases ltL_tri f.2 g.2 with h | h | h
    · exact .inl h
    · exact .inr (.inl (Prod.ext e h))
    · exact .inr (.inr h)
  · rw [if_neg e, if_neg fun z => e z.symm]
    rcases lt3_tri f.1 g.1 with h | h | h
    · exact .inl h
    · exact absurd h e
    · exact .inr (.inr h)
theorem ltF_trans {f g h : Fm} (h1 : ltF f g = true) (h2 : ltF g h = true) : ltF f h = true := by
  unfold ltF at *
  by_cases e1 : f.1 = g.1
  · rw [if_pos e1] at h1
    by_cases e2 : g.1 = h.1
    · rw [if_pos e2] at h2; rw [if_pos (e1.trans e2)]; exact ltL_trans h1 h2
    · rw [if_neg e2] at h2; rw [if_neg fun z => e2 (e1.symm.trans z), e1]; exact h2
  · rw [if_neg e1] at h1
    by_cases e2 : g.1 = h.1
    · rw [if_neg fun z => e1 (z.trans e2.symm), ← e2]; exact h1
    · rw [if_neg e2] at h2
      have := lt3_trans h1 h2
      rw [if_neg fun z => by rw [z] at this; exact lt3_irr _ this]
      exact this

def LeastF (fs : List Fm) (f : Fm) : Prop := f ∈ fs ∧ ∀ g ∈ fs, ltF g f = false
theorem LeastF.uniq {fs : List Fm} {f g : Fm} (h : LeastF fs f) (h' : LeastF fs g) : f = g := by
  rcases ltF_tri f g with z | z | z
  · rw [h'.2 _ h.1] at z; cases z
  · exact z
  · rw [h.2 _ h'.1] at z; cases z
theorem LeastF.same {fs gs : List Fm} {f : Fm} (e : ∀ x, x ∈ fs ↔ x ∈ gs) (h : LeastF fs f) : LeastF gs f := ⟨(e f).mp h.1, fun g hg => h.2 g ((e g).mpr hg)⟩
theorem ltF_not {f g h : Fm} (h1 : ltF g f = false) (h2 : ltF h f = true) : ltF g h = false := by
  cases e : ltF g h with
  | false => rfl
  | true => rw [ltF_trans e h2] at h1; cases h1
theorem LeastF.one (f : Fm) : LeastF [f] f := ⟨List.mem_cons_self, fun g hg => by rw [List.mem_singleton.mp hg]; exact ltF_irr f⟩
theorem LeastF.keep {fs : List Fm} {f x : Fm} (h : LeastF fs f) (hx : ltF x f = false) : LeastF (fs ++ [x]) f := ⟨List.mem_append_left _ h.1, fun g hg => by
  rcases List.mem_append.mp hg with z | z
  · exact h.2 g z
  · rw [List.mem_singleton.mp z]; exact hx⟩
theorem LeastF.put {fs : List Fm} {f x : Fm} (h : LeastF fs f) (hx : ltF x f = true) : LeastF (fs ++ [x]) x := ⟨List.mem_append_right _ List.mem_cons_self, fun g hg => by
  rcases List.mem_append.mp hg with z | z
  · exact ltF_not (h.2 g z) hx
  · rw [List.mem_singleton.mp z]; exact ltF_irr x⟩
end Ss

namespace Ss
open PySem PySem.Spec PyProof.Rows L2
open PySem.MeetsSeq PySem.MeetsSeq2 PySem.MeetsSeq3 PySem.SeqAt


section
variable {X : Cx}

end
end Ss

namespace Ss
open PySem PySem.Spec L2
def dF (f : Fm) : PyData := .tuple [d3 f.1, .list (f.2.map d3)]
def MoAt (K : PySem.W.Frag) (H : Hp) (v : V) : Option Mv → Prop
  | none => v = .non
  | some m => MvAt K H v m
def dMo : Option Mv → PyData
  | none => .none
  | some m => dMv m
theorem MoAt.mono {K : PySem.W.Frag} {H H' : Hp} {v : V} : ∀ {o : Option Mv}, Same H H' → MoAt K H v o → MoAt K H' v o
  | none, _, h => h
  | some _, s, h => MvAt.mono s h
theorem MoAt.dp {K : PySem.W.Frag} {H : Hp} {v : V} : ∀ {o : Option Mv}, MoAt K H v o → Dp K H v (dMo o)
  | none, h => by rw [show v = .non from h]; exact .non
  | some _, h => MvAt.dp h
end Ss

namespace Ss
open PySem PySem.Spec PyProof.Rows L2
open PySem.MeetsSeq PySem.MeetsSeq2 PySem.MeetsSeq3 PySem.SeqAt
open AutoSeq1 (wpAny_loadPart')

structure Told2 (A : Around) (s : Shared) (x y : Value) (e c : Bool) : Prop where
  eq : ∀ (prog : Program) (w : World) (E : Value → Shared → Prop) (Q : Bool → Shared → Prop), Q e s → wpAny (model prog w) A (eqBool x y) Q E s
  lt : ∀ (prog : Program) (w : World) (Q E : Value → Shared → Prop), Q (.bool c) s → wpAny (model prog w) A (richCompare .Lt x y) Q E s
def FmAt (K : PySem.W.Frag) (H : Hp) (v : V) (f : Fm) : Prop := ∃ (p l : Addr) (vb : V) (xs : List V), v = .ref p ∧ H p = some (.tup [vb, .ref l]) ∧ T3 K H vb f.1 ∧ H l = some (.lst xs) ∧ All3 K H xs f.2
theorem FmAt.mono {K : PySem.W.Frag} {H H' : Hp} {v : V} {f : Fm} (s : Same H H') (h : FmAt K H v f) : FmAt K H' v f := let ⟨p, l, vb, xs, e, q, a, b, c⟩ := h; ⟨p, l, vb, xs, e, s _ _ q, a.mono s, s _ _ b, c.mono s⟩
theorem FmAt.dp {K : PySem.W.Frag} {H : Hp} {v : V} {f : Fm} (h : FmAt K H v f) : Dp K H v (dF f) := by
  obtain ⟨p, l, vb, xs, rfl, q, a, b, c⟩ := h
  exact .tup (SqT.of q) (.cons a.dp (.cons (.lst (SqL.of b) c.dp) .nil))

def FmN (K : PySem.W.Frag) (H0 : Hp) (D : Addr) (H : Hp) (v : V) (f : Fm) : Prop := ∃ (p l : Addr) (vb : V) (xs : List V), v = .ref p ∧ H0 l = none ∧ l ≠ D ∧ H p = some (.tup [vb, .ref l]) ∧ T3 K H vb f.1 ∧ H l = some (.lst xs) ∧ All3 K H xs f.2
theorem FmN.mono {K : PySem.W.Frag} {H0 : Hp} {D : Addr} {H H' : Hp} {v : V} {f : Fm} (s : Same H H') (h : FmN K H0 D H v f) : FmN K H0 D H' v f := let ⟨p, l, vb, xs, e, n, d, q, a, b, c⟩ := h; ⟨p, l, vb, xs, e, n, d, s _ _ q, a.mono s, s _ _ b, c.mono s⟩
theorem FmN.put {K : PySem.W.Frag} {H0 : Hp} {D : Addr} {H : Hp} {v : V} {f : Fm} {ys zs : List V} (hd : H D = some (.lst ys)) (h : FmN K H0 D H v f) : FmN K H0 D (upd H D (.lst zs)) v f := by
  obtain ⟨p, l, vb, xs, e, n, d, q, a, b, c⟩ := h
  refine ⟨p, l, vb, xs, e, n, d, ?_, a.put hd, ?_, c.put hd⟩
  · rw [upd_ne (ne_of q hd (by intro z; cases z))]; exact q
  · rw [upd_ne d]; exact b
theorem FmN.at {K : PySem.W.Frag} {H0 : Hp} {D : Addr} {H : Hp} {v : V} {f : Fm} (h : FmN K H0 D H v f) : FmAt K H v f := let ⟨p, l, vb, xs, e, _, _, q, a, b, c⟩ := h; ⟨p, l, vb, xs, e, q, a, b, c⟩
section
variable {X : Cx} {pins : List (Addr × Obj)} {σ : L2.St} {H : Hp} {s : Shared}
end

def DuAt (K : PySem.W.Frag) (H : Hp) (v : V) : Option Fm → Prop
  | none => v = .non
  | some f => FmAt K H v f
theorem DuAt.mono {K : PySem.W.Frag} {H H' : Hp} {v : V} : ∀ {o : Option Fm}, Same H H' → DuAt K H v o → DuAt K H' v o
  | none, _, h => h
  | some _, s, h => FmAt.mono s h
end Ss

namespace Ss
open PySem PySem.Spec L2

section
variable {s w : T3i} {m : Mv}
end
end Ss

namespace L2
open PySem PySem.Spec PyProof.Rows

section
variable {X : Cx} {CX : CXT} {k : Nat} {f C : Addr} {fd : FuncData} {ps : List Str} {sp : Sp} {dvs : List V} {ds : List Value} {E : XK} {x m : Str} {p pos apos : Pos} {e o : Expr} {es : List Expr} {ta : TE} {t : TA} {R : St → Prop}

end
end L2

namespace Ss
open PySem PySem.Spec L2


abbrev Ey := List Nat × T3i × List Nat
structure Mo where
  eyes : List Ey
  gone : List T3i
  sure : List T3i
  grains : List T3i
  rows : List Rw
abbrev lkOf (e : Ey) : Look := (e.2.1, e.2.2)
def Mo.names (m : Mo) : List (List Nat) := m.eyes.map (·.1)
structure Sh where
  s : T3i
  now : Mo
  past : List Mo
  undone : List Mo
def EyAt (K : PySem.W.Frag) (H : Hp) (v : V) (e : Ey) : Prop := ∃ p vw, v = .ref p ∧ H p = some (.tup [.str (SS e.1), vw, .str (SS e.2.2)]) ∧ T3 K H vw e.2.1
theorem EyAt.mono {K : PySem.W.Frag} {H H' : Hp} {v : V} {e : Ey} (s : Same H H') (h : EyAt K H v e) : EyAt K H' v e := let ⟨p, vw, a, b, c⟩ := h; ⟨p, vw, a, s _ _ b, c.mono s⟩
abbrev EysAt (K : PySem.W.Frag) (H : Hp) : List V → List Ey → Prop := Paired (EyAt K H)
theorem EysAt.mono {K : PySem.W.Frag} {H H' : Hp} {xs : List V} {es : List Ey} (s : Same H H') (h : EysAt K H xs es) : EysAt K H' xs es := Paired.mapP h fun _ _ z => z.mono s

def mfl (ve vg vs vr vw : V) : List (Str × V) := putF "rows" vw (putF "grains" vr (putF "said_sure" vs (putF "said_gone" vg (putF "eyes" ve []))))
def wfl (vS vn vp vu : V) : List (Str × V) := putF "undone" vu (putF "past" vp (putF "now" vn (putF "sizes" vS [])))
structure MmParts (K : PySem.W.Frag) (C : Addr) (H : Hp) (p dx le lg ls lr lw : Addr) (xe xg xs xr xw : List V) (m : Mo) : Prop where
  ob : H p = some (.ins C dx (mfl (.ref le) (.ref lg) (.ref ls) (.ref lr) (.ref lw)))
  le : H le = some (.lst xe)
  eyes : EysAt K H xe m.eyes
  lg : H lg = some (.lst xg)
  gone : All3 K H xg m.gone
  ls : H ls = some (.lst xs)
  sure : All3 K H xs m.sure
  lr : H lr = some (.lst xr)
  grains : All3 K H xr m.grains
  lw : H lw = some (.lst xw)
  rows : PrAt K H xw m.rows
theorem MmParts.mono {K : PySem.W.Frag} {C : Addr} {H H' : Hp} {p dx le lg ls lr lw : Addr} {xe xg xs xr xw : List V} {m : Mo} (s : Same H H') (h : MmParts K C H p dx le lg ls lr lw xe xg xs xr xw m) : MmParts K C H' p dx le lg ls lr lw xe xg xs xr xw m :=
  ⟨s _ _ h.ob, s _ _ h.le, h.eyes.mono s, s _ _ h.lg, h.gone.mono s, s _ _ h.ls, h.sure.mono s, s _ _ h.lr, h.grains.mono s, s _ _ h.lw, h.rows.mono s⟩
def MmAt (K : PySem.W.Frag) (C : Addr) (H : Hp) (v : V) (m : Mo) : Prop := ∃ p dx le lg ls lr lw xe xg xs xr xw, v = .ref p ∧ MmParts K C H p dx le lg ls lr lw xe xg xs xr xw m
theorem MmAt.mono {K : PySem.W.Frag} {C : Addr} {H H' : Hp} {v : V} {m : Mo} (s : Same H H') (h : MmAt K C H v m) : MmAt K C H' v m :=
  let ⟨p, dx, le, lg, ls, lr, lw, xe, xg, xs, xr, xw, e, q⟩ := h; ⟨p, dx, le, lg, ls, lr, lw, xe, xg, xs, xr, xw, e, q.mono s⟩
abbrev MmsAt (K : PySem.W.Frag) (C : Addr) (H : Hp) : List V → List Mo → Prop := Paired (MmAt K C H)
theorem MmsAt.mono {K : PySem.W.Frag} {C : Addr} {H H' : Hp} {xs : List V} {ms : List Mo} (s : Same H H') (h : MmsAt K C H xs ms) : MmsAt K C H' xs ms := Paired.mapP h fun _ _ z => z.mono s

structure ShParts (K : PySem.W.Frag) (C CM : Addr) (G H : Hp) (p dx lp lu : Addr) (vS vn : V) (xp xu : List V) (st : Sh) : Prop where
  ob : H p = some (.ins C dx (wfl vS vn (.ref lp) (.ref lu)))
  hp : H lp = some (.lst xp)
  hu : H lu = some (.lst xu)
  ne : lp ≠ lu
  gp : G p = none
  gl : G lp = none
  gu : G lu = none
  gs : Same G H
  sz : T3 K G vS st.s
  now : MmAt K CM G vn st.now
  past : MmsAt K CM G xp st.past
  undone : MmsAt K CM G xu st.undone
def ShAt (K : PySem.W.Frag) (C CM : Addr) (G H : Hp) (p : Addr) (st : Sh) : Prop := ∃ dx lp lu vS vn xp xu, ShParts K C CM G H p dx lp lu vS vn xp xu st
section
variable {K : PySem.W.Frag} {C CM : Addr} {G H H' : Hp} {p dx lp lu : Addr} {vS vn : V} {xp xu : List V} {st : Sh}
theorem ShParts.same (h : ShParts K C CM G H p dx lp lu vS vn xp xu st) (s : Same H H') : ShParts K C CM G H' p dx lp lu vS vn xp xu st :=
  ⟨s _ _ h.ob, s _ _ h.hp, s _ _ h.hu, h.ne, h.gp, h.gl, h.gu, h.gs.trans s, h.sz, h.now, h.past, h.undone⟩
theorem ShAt.same (h : ShAt K C CM G H p st) (s : Same H H') : ShAt K C CM G H' p st := let ⟨dx, lp, lu, vS, vn, xp, xu, q⟩ := h; ⟨dx, lp, lu, vS, vn, xp, xu, q.same s⟩

def Own (p lp lu : Addr) : Addr → Prop := fun b => b = p ∨ b = lp ∨ b = lu

end

section
variable {K : PySem.W.Frag} {H : Hp} {A : Addr → Prop}
end

def NmOk (n : List Nat) : Prop := 1 ≤ n.length ∧ n.length ≤ 12 ∧ ∀ c ∈ n, letN c = true ∧ c < 1000
structure MoOk (s : T3i) (m : Mo) : Prop where
  eyes : ∀ e ∈ m.eyes, NmOk e.1 ∧ LkOk s (lkOf e)
  nd : m.names.Nodup
  len : m.eyes.length ≤ 8
  gone : Rise m.gone ∧ ∀ x ∈ m.gone, inF s x = true
  sure : Rise m.sure ∧ ∀ x ∈ m.sure, inF s x = true
  grains : Rise m.grains ∧ ∀ x ∈ m.grains, inF s x = true
  rows : (m.rows.map (·.1)).Nodup ∧ ∀ r ∈ m.rows, inF s r.1 = true ∧ r.1 ∉ m.grains ∧ (0 ≤ r.2.1 ∧ r.2.1 < (m.eyes.length : Int)) ∧ (0 ≤ r.2.2 ∧ r.2.2 < (m.eyes.length : Int))
section
variable {s : T3i} {m : Mo}
theorem MoOk.names (h : MoOk s m) : ∀ n ∈ m.names, NmOk n := fun n hn => by
  unfold Mo.names at hn
  obtain ⟨e, he, rfl⟩ := List.mem_map.mp hn
  exact (h.eyes e he).1
theorem MoOk.signs (h : MoOk s m) : ∀ n ∈ m.names, ∀ c ∈ n, c < 1000 := fun n hn c hc => ((h.names n hn).2.2 c hc).2
end
end Ss

namespace L2
open PySem PySem.Spec PyProof.Rows Ss
theorem tuple_index3 {prog : Program} {w : World} {A : Around} {E : Value → Shared → Prop} {s : Shared} {p : Addr} {a b c k : Int} {ta tb tc u : Tok} {Q : Value → Shared → Prop} (ht : IsTup s.heap p #[.int a ta, .int b tb, .int c tc]) (hk : a = k ∨ b = k ∨ c = k)
    (q : ∀ t', Q (.int (if a = k then 0 else if b = k then 1 else 2) t') { s with toks := s.toks + 1 }) : wpAny (model prog w) A (call (.builtin "tuple.index") [.ref p, .int k u]) Q E s := by
  refine wpAny_call_entry F.slot_tuple_index (let ⟨o, ho, hc, _⟩ := ht; ⟨o, ho, hc⟩) F.entry_tuple_index ?_ (F.args_tuple_index_2 _ _)
  unfold Builtin.«tuple.index»
  refine wpAny_bind ?_
  show wpAny _ _ (pure (Value.ref p, [Value.int k u])) _ _ s
  refine wpAny_pure ?_
  refine wpAny_bind (tupleItemsOf_ ht ?_)
  dsimp only
  refine wpAny_bind (wpAny_pure ?_)
  refine wpAny_bind (wpAny_pure ?_)
  rw [Std.Legacy.Range.forIn_eq_forIn_range']
  simp only [Std.Legacy.Range.size, Nat.sub_zero, Nat.add_sub_cancel, Nat.div_one]
  have ri : ∀ (j : Nat) {R : Fin → Shared → Prop}, (∀ t', R (Fin.done (Flow.ret (.int (j : Int) t'))) { s with toks := s.toks + 1 }) → wpAny (model prog w) A.in1 (retInt (j : Int)) R E s := fun j R h => by
    unfold retInt
    exact wpAny_bind (wpAny_mkInt (wpAny_pure (h _)))
  show wpAny _ _ (forIn [0, 1, 2] (none, ()) _ >>= _) _ _ _
  rw [List.forIn_cons]
  refine wpAny_bind (wpAny_bind ?_)
  refine wpAny_bind (wpAny_eqBool_int ?_)
  by_cases h1 : a = k
  · rw [show (a == k) = true by simpa using h1]
    simp only [if_true]
    refine wpAny_bind (ri 0 fun t' => wpAny_pure (wpAny_pure (wpAny_pure ⟨_, rfl, ?_⟩)))
    have := q t'
    rwa [if_pos h1] at this
  rw [show (a == k) = false by simpa using h1]
  simp only [Bool.false_eq_true, if_false]
  refine wpAny_pure ?_
  dsimp only
  rw [List.forIn_cons]
  refine wpAny_bind (wpAny_bind (wpAny_eqBool_int ?_))
  by_cases h2 : b = k
  · rw [show (b == k) = true by simpa using h2]
    simp only [if_true]
    refine wpAny_bind (ri 1 fun t' => wpAny_pure (wpAny_pure (wpAny_pure ⟨_, rfl, ?_⟩)))
    have := q t'
    rwa [if_neg h1, if_pos h2] at this
  rw [show (b == k) = false by simpa using h2]
  simp only [Bool.false_eq_true, if_false]
  refine wpAny_pure ?_
  dsimp only
  have h3 : c = k := by rcases hk with z | z | z; exact absurd z h1; exact absurd z h2; exact z
  rw [List.forIn_cons]
  refine wpAny_bind (wpAny_bind (wpAny_eqBool_int ?_))
  rw [show (c == k) = true by simpa using h3]
  simp only [if_true]
  refine wpAny_bind (ri 2 fun t' => wpAny_pure (wpAny_pure (wpAny_pure ⟨_, rfl, ?_⟩)))
  have := q t'
  rwa [if_neg h1, if_neg h2] at this
section
variable {X : Cx}

def rIndexT : V → List V → Hp → VK → Prop := fun x vs H Q => ∃ (p : Addr) (o : T3i) (k : Int), x = .ref p ∧ vs = [.int k] ∧ H p = some (.tup (l3 o)) ∧ (o.1 = k ∨ o.2.1 = k ∨ o.2.2 = k) ∧ Q (.int (if o.1 = k then 0 else if o.2.1 = k then 1 else 2)) H
theorem mt_indexT : MtR X "tuple.index" rIndexT := by
  intro pins s σ H x vs v us Q I rx rv h
  obtain ⟨p, o, k, rfl, rfl, hp, hk, q⟩ := h
  cases rx
  obtain ⟨u, rfl, t, rfl⟩ := vals1 rv
  obtain ⟨_, its, r, tp⟩ := (show ObjOk X.prog X.w H s.heap p (.tup (l3 o)) from I.hok p _ hp)
  obtain ⟨u1, _, rfl, r1, r⟩ := vals_cons r
  obtain ⟨u2, _, rfl, r2, r⟩ := vals_cons r
  obtain ⟨u3, _, rfl, r3, r⟩ := vals_cons r
  cases r
  obtain ⟨a, rfl⟩ := r1
  obtain ⟨b, rfl⟩ := r2
  obtain ⟨c, rfl⟩ := r3
  exact tuple_index3 tp.tup hk fun t' => ⟨.int _, H, I.tok _, ⟨t', rfl⟩, q⟩
end
section
variable {X : Cx} {K : PySem.W.Frag} {o e : Expr} {es : List Expr} {to : TE} {t : TA} {name : Str} {apos cpos : Pos} {T id : String} {r : V → List V → Hp → VK → Prop}

theorem pe_bmK (eK : X.K = K) (pa : PlainAttrs T) (slot : Slot T name id) (hty : typeOf (.builtin id) = pure (.type "method_descriptor")) (hm : MtR X id r) (ho : PE X o to) (ha : PA X (e :: es) t)
    (hbase : attributeBase o name X.env (eval o X.env) = eval o X.env := by rfl)
    (hfew : ((backTo cpos (starEach (e :: es) X.env)).all (fun x => !x.1) && (backToKw cpos (keywordEach [] X.env)).all (fun x => x.1.isSome)
      && decide ((e :: es).length + ([] : List Keyword).length + (if ([] : List Keyword).isEmpty then 0 else 1) < 30)) = true := by rfl)
    (hline : (apos.endLine == cpos.line) = true := by rfl) (hs : starEach (e :: es) X.env = (false, eval e X.env) :: starEach es X.env := by rfl) (hplain : (backTo cpos (starEach es X.env)).any (·.1) = false := by rfl) :
    PE X (.Call (.Attribute o name apos) (e :: es) [] cpos) (tBM K T r to t) := by
  subst eK
  exact pe_bm pa slot hty hm ho ha hbase hfew hline hs hplain
end
end L2
namespace Ss
open PySem PySem.Spec L2

def MvT (K : PySem.W.Frag) (H : Hp) (v : V) (m : Mv) : Prop := ∃ p vo vt, v = .ref p ∧ H p = some (.tup [vo, vt]) ∧ T3 K H vo m.1 ∧ T3 K H vt m.2
theorem MvT.mono {K : PySem.W.Frag} {H H' : Hp} {v : V} {m : Mv} (s : Same H H') (h : MvT K H v m) : MvT K H' v m := let ⟨p, vo, vt, e, q, a, b⟩ := h; ⟨p, vo, vt, e, s _ _ q, a.mono s, b.mono s⟩
theorem MvT.mv {K : PySem.W.Frag} {H : Hp} {v : V} {m : Mv} (h : MvT K H v m) : MvAt K H v m := let ⟨p, vo, vt, e, q, a, b⟩ := h; ⟨p, vo, vt, e, SqT.of q, a.q3, b.q3⟩
theorem eqv_dMv (a b : Mv) : (dMv a).eqv (dMv b) = decide (a = b) := by
  obtain ⟨o, t⟩ := a
  obtain ⟨o', t'⟩ := b
  show ((d3 o).eqv (d3 o') && ((d3 t).eqv (d3 t') && true)) = _
  rw [eqv_d3, eqv_d3]
  by_cases h1 : o = o' <;> by_cases h2 : t = t' <;> simp [h1, h2]
theorem any_dMv (t : Mv) : ∀ ts : List Mv, ((ts.map dMv).any fun y => y.eqv (dMv t)) = decide (t ∈ ts)
  | [] => rfl
  | a :: r => by
    rw [List.map_cons, List.any_cons, any_dMv t r, eqv_dMv]
    by_cases h1 : a = t
    · simp [h1]
    · have : ¬ t = a := fun e => h1 e.symm
      simp [h1, this]
theorem ixM_parts {ns : List Mv} {n : Mv} (hm : n ∈ ns) : (∃ e, (ns.map dMv)[ns.idxOf n]? = some e ∧ e.eqv (dMv n) = true) ∧ (∀ (m : Nat) e, m < ns.idxOf n → (ns.map dMv)[m]? = some e → e.eqv (dMv n) = false) := by
  have hi := List.idxOf_lt_length_of_mem hm
  refine ⟨⟨dMv n, by rw [List.getElem?_map, List.getElem?_eq_getElem hi, List.getElem_idxOf hi]; rfl, by rw [eqv_dMv]; exact decide_eq_true rfl⟩, fun m e hlt he => ?_⟩
  rw [List.getElem?_map] at he
  obtain ⟨x, hx, rfl⟩ := Option.map_eq_some_iff.mp he
  rw [eqv_dMv]
  refine decide_eq_false fun z => ?_
  subst z
  obtain ⟨h1, h2⟩ := List.getElem?_eq_some_iff.mp hx
  have h3 := List.not_of_lt_findIdx (p := (· == x)) (xs := ns) (i := m) hlt
  rw [h2] at h3
  simp at h3
theorem mvP_0 (s p : T3i) : mvP s mv0 p = p := by obtain ⟨x, y, z⟩ := p; rfl
end Ss

namespace Law
open PySem PySem.Spec L2 Ss
def top (i : Nat) : Stmt := PySem.Challenge.pw_sightstone_k37_moves_put_together.main.body.getD i (.Pass ⟨0, 0, 0, 0⟩)
abbrev s_moved_place : Stmt := top 1
abbrev s_moved_way : Stmt := top 2
abbrev s_after : Stmt := top 3
abbrev s_back_of : Stmt := top 4
abbrev s_alike : Stmt := top 6
abbrev s_digits : Stmt := top 7
abbrev s_one : Stmt := top 8
abbrev s_any_sizes : Stmt := top 9
abbrev s_measure : Stmt := top 10
abbrev s_way : Stmt := top 11
abbrev s_move : Stmt := top 12
abbrev s_moved_sizes : Stmt := top 13
abbrev s_moves : Stmt := top 14
abbrev s_law : Stmt := top 15
theorem sc_moved_place : FnScope ["sizes", "move", "place", "order", "turned", "part", "turn"] ["sizes", "move", "place"] (defScope s_moved_place) := ⟨rfl, rfl, rfl, by decide +kernel, rfl, by decide +kernel, by decide +kernel⟩
theorem sc_moved_way : FnScope ["move", "way", "order", "turned", "part", "turn"] ["move", "way"] (defScope s_moved_way) := ⟨rfl, rfl, rfl, by decide +kernel, rfl, by decide +kernel, by decide +kernel⟩
theorem sc_after : FnScope ["one", "other", "order", "part", "turned", "turn"] ["one", "other"] (defScope s_after) := ⟨rfl, rfl, rfl, by decide +kernel, rfl, by decide +kernel, by decide +kernel⟩
theorem sc_back_of : FnScope ["move", "order", "turned", "goals", "part", "goal"] ["move"] (defScope s_back_of) := ⟨rfl, rfl, rfl, by decide +kernel, rfl, by decide +kernel, by decide +kernel⟩
theorem sc_alike : FnScope ["_law_found", "_law_due", "_law_one_here", "_law_other"] ["_law_found", "_law_due"] (defScope s_alike) := ⟨rfl, rfl, rfl, by decide +kernel, rfl, by decide +kernel, by decide +kernel⟩
theorem sc_digits : FnScope ["_law_script", "_law_k", "_law_base", "_law_many", "_law_cell", "_law_number", "_law_row", "_law_turn"] ["_law_script", "_law_k", "_law_base", "_law_many"] (defScope s_digits) := ⟨rfl, rfl, rfl, by decide +kernel, rfl, by decide +kernel, by decide +kernel⟩
theorem sc_one : FnScope ["_law_script", "_law_k", "_law_base"] ["_law_script", "_law_k", "_law_base"] (defScope s_one) := ⟨rfl, rfl, rfl, by decide +kernel, rfl, by decide +kernel, by decide +kernel⟩
theorem sc_any_sizes : FnScope ["_law_script", "_law_k", "_law_row"] ["_law_script", "_law_k"] (defScope s_any_sizes) := ⟨rfl, rfl, rfl, by decide +kernel, rfl, by decide +kernel, by decide +kernel⟩
theorem sc_measure : FnScope ["_law_one_here", "_law_other", "_law_rest"] ["_law_one_here", "_law_other"] (defScope s_measure) := ⟨rfl, rfl, rfl, by decide +kernel, rfl, by decide +kernel, by decide +kernel⟩
theorem sc_way : FnScope ["_law_script", "_law_k", "_law_row", "_law_part", "_law_measure_here"] ["_law_script", "_law_k"] (defScope s_way) := ⟨rfl, rfl, rfl, by decide +kernel, rfl, by decide +kernel, by decide +kernel⟩
theorem sc_move : FnScope ["_law_script", "_law_k", "_law_orders", "_law_number"] ["_law_script", "_law_k"] (defScope s_move) := ⟨rfl, rfl, rfl, by decide +kernel, rfl, by decide +kernel, by decide +kernel⟩
theorem sc_moved_sizes : FnScope ["_law_sizes", "_law_move_here"] ["_law_sizes", "_law_move_here"] (defScope s_moved_sizes) := ⟨rfl, rfl, rfl, by decide +kernel, rfl, by decide +kernel, by decide +kernel⟩
theorem sc_moves : FnScope ["_law_moves_here", "_law_one_here", "_law_two", "_law_number", "_law_order"] [] (defScope s_moves) := ⟨rfl, rfl, rfl, by decide +kernel, rfl, by decide +kernel, by decide +kernel⟩
theorem sc_law : FnScope ["_law_script", "_law_sizes", "_law_one_here", "_law_two", "_law_way_here", "_law_parts", "_law_place", "_law_both", "_law_back", "_law_moves_here", "_law_block", "_law_middle", "_law_still"] ["_law_script"] (defScope s_law) := ⟨rfl, rfl, rfl, by decide +kernel, rfl, by decide +kernel, by decide +kernel⟩
structure Tx (K : PySem.W.Frag) (mg : Str → Option Value) (Ts : List (Addr × Array Value)) where
  bm : BmK K mg
  n_abs : mg "abs" = none
  n_all : mg "all" = none
  n_bool : mg "bool" = none
  n_isinstance : mg "isinstance" = none
  n_len : mg "len" = none
  n_list : mg "list" = none
  n_max : mg "max" = none
  n_min : mg "min" = none
  n_range : mg "range" = none
  n_tuple : mg "tuple" = none
  n_zip : mg "zip" = none
  f_moved_place : Addr
  d_moved_place : FuncData
  c_moved_place : Value
  F_moved_place : FunC K "moved_place" "moved_place" s_moved_place f_moved_place d_moved_place c_moved_place
  b_moved_place : Binds K d_moved_place ["sizes", "move", "place"] []
  g_moved_place : mg "moved_place" = some (.ref f_moved_place)
  cc_moved_place : Addr
  P_moved_place : Addr
  ps_moved_place : Array Value
  ck_moved_place : CodeK K c_moved_place cc_moved_place P_moved_place
  tb_moved_place : (P_moved_place, ps_moved_place) ∈ Ts
  f_moved_way : Addr
  d_moved_way : FuncData
  c_moved_way : Value
  F_moved_way : FunC K "moved_way" "moved_way" s_moved_way f_moved_way d_moved_way c_moved_way
  b_moved_way : Binds K d_moved_way ["move", "way"] []
  g_moved_way : mg "moved_way" = some (.ref f_moved_way)
  cc_moved_way : Addr
  P_moved_way : Addr
  ps_moved_way : Array Value
  ck_moved_way : CodeK K c_moved_way cc_moved_way P_moved_way
  tb_moved_way : (P_moved_way, ps_moved_way) ∈ Ts
  f_after : Addr
  d_after : FuncData
  c_after : Value
  F_after : FunC K "after" "after" s_after f_after d_after c_after
  b_after : Binds K d_after ["one", "other"] []
  g_after : mg "after" = some (.ref f_after)
  cc_after : Addr
  P_after : Addr
  ps_after : Array Value
  ck_after : CodeK K c_after cc_after P_after
  tb_after : (P_after, ps_after) ∈ Ts
  f_back_of : Addr
  d_back_of : FuncData
  c_back_of : Value
  F_back_of : FunC K "back_of" "back_of" s_back_of f_back_of d_back_of c_back_of
  b_back_of : Binds K d_back_of ["move"] []
  g_back_of : mg "back_of" = some (.ref f_back_of)
  cc_back_of : Addr
  P_back_of : Addr
  ps_back_of : Array Value
  ck_back_of : CodeK K c_back_of cc_back_of P_back_of
  tb_back_of : (P_back_of, ps_back_of) ∈ Ts
  f_alike : Addr
  d_alike : FuncData
  c_alike : Value
  F_alike : FunC K "_law_alike" "_law_alike" s_alike f_alike d_alike c_alike
  b_alike : Binds K d_alike ["_law_found", "_law_due"] []
  g_alike : mg "_law_alike" = some (.ref f_alike)
  f_digits : Addr
  d_digits : FuncData
  c_digits : Value
  F_digits : FunC K "_law_digits" "_law_digits" s_digits f_digits d_digits c_digits
  b_digits : Binds K d_digits ["_law_script", "_law_k", "_law_base", "_law_many"] []
  g_digits : mg "_law_digits" = some (.ref f_digits)
  f_one : Addr
  d_one : FuncData
  c_one : Value
  F_one : FunC K "_law_one" "_law_one" s_one f_one d_one c_one
  b_one : Binds K d_one ["_law_script", "_law_k", "_law_base"] []
  g_one : mg "_law_one" = some (.ref f_one)
  f_any_sizes : Addr
  d_any_sizes : FuncData
  c_any_sizes : Value
  F_any_sizes : FunC K "_law_any_sizes" "_law_any_sizes" s_any_sizes f_any_sizes d_any_sizes c_any_sizes
  b_any_sizes : Binds K d_any_sizes ["_law_script", "_law_k"] []
  g_any_sizes : mg "_law_any_sizes" = some (.ref f_any_sizes)
  f_measure : Addr
  d_measure : FuncData
  c_measure : Value
  F_measure : FunC K "_law_measure" "_law_measure" s_measure f_measure d_measure c_measure
  b_measure : Binds K d_measure ["_law_one_here", "_law_other"] []
  g_measure : mg "_law_measure" = some (.ref f_measure)
  f_way : Addr
  d_way : FuncData
  c_way : Value
  F_way : FunC K "_law_way" "_law_way" s_way f_way d_way c_way
  b_way : Binds K d_way ["_law_script", "_law_k"] []
  g_way : mg "_law_way" = some (.ref f_way)
  f_move : Addr
  d_move : FuncData
  c_move : Value
  F_move : FunC K "_law_move" "_law_move" s_move f_move d_move c_move
  b_move : Binds K d_move ["_law_script", "_law_k"] []
  g_move : mg "_law_move" = some (.ref f_move)
  f_moved_sizes : Addr
  d_moved_sizes : FuncData
  c_moved_sizes : Value
  F_moved_sizes : FunC K "_law_moved_sizes" "_law_moved_sizes" s_moved_sizes f_moved_sizes d_moved_sizes c_moved_sizes
  b_moved_sizes : Binds K d_moved_sizes ["_law_sizes", "_law_move_here"] []
  g_moved_sizes : mg "_law_moved_sizes" = some (.ref f_moved_sizes)
  f_moves : Addr
  d_moves : FuncData
  c_moves : Value
  F_moves : FunC K "_law_moves" "_law_moves" s_moves f_moves d_moves c_moves
  b_moves : Binds K d_moves [] []
  g_moves : mg "_law_moves" = some (.ref f_moves)
  f_law : Addr
  d_law : FuncData
  c_law : Value
  F_law : FunC K "law" "law" s_law f_law d_law c_law
  b_law : Binds K d_law ["_law_script"] []
  g_law : mg "law" = some (.ref f_law)
section
variable {P : Program} {w : World} {K : PySem.W.Frag} {mg : Str → Option Value} {base : Heap} {Ts : List (Addr × Array Value)}
def sp_moved_place (K : PySem.W.Frag) (Ts : List (Addr × Array Value)) : Sp := fun vs H Q _ => ∃ (v1 vm v3 : V) (s p : T3i) (m : Mv), vs = [v1, vm, v3] ∧ B3 K H v1 s ∧ MvAt K H vm m ∧ m.1 ∈ ord3 ∧ B3 K H v3 p ∧ Tables Ts H ∧ ∀ v H', Same H H' → T3 K H' v (mvP s m p) → Q v H'
theorem ok_moved_place (T : Tx K mg Ts) : FnOk P w K mg base CX0 2 T.f_moved_place T.d_moved_place ["sizes", "move", "place"] (sp_moved_place K Ts) := by
  refine T.F_moved_place.ok sc_moved_place (fun vs H Q E h => ?_) (fun A outer s H vs Q E hr h => ?_)
  · obtain ⟨v1, vm, v3, s, p, m, rfl, _⟩ := h; rfl
  · obtain ⟨v1, vm, v3, s, p, m, rfl, ⟨a1, t1, rfl, h1⟩, ⟨pm, vo, vt, rfl, hm, ⟨po, rfl, ho⟩, ⟨pt, rfl, ht⟩⟩, hord, ⟨a3, t3, rfl, h3⟩, hT, q⟩ := h
    refine ⟨_, (pss_cons (ps_asg (pv 1) (pg_tup rfl (pgs_cons (pg_name (i := 3) (x := "order") sc_moved_place.nd rfl (Or.inl rfl)) (pgs_cons (pg_name (i := 4) (x := "turned") sc_moved_place.nd rfl (Or.inl rfl)) pgs_nil))))
      (pss_one (ps_ret (pe_tupG (ps := T.ps_moved_place) (own := [("part", 5), ("turn", 6)]) (g := (gTup K 2 (gCons (gName 5) (gCons (gName 6) gNil)))) rfl sc_moved_place.nd hr rfl T.n_tuple (pi_zip2 rfl T.n_zip (pa_cons (pv 3) (pa_cons (pv 4) pa_nil))) (blkOk_by (own := [("part", 5), ("turn", 6)]) (N := ["sizes", "move", "place", "order", "turned", "part", "turn"]) (sc := defScope s_moved_place) (by decide +kernel)) ⟨rfl, by decide +kernel, by decide +kernel⟩ T.ck_moved_place T.bm (fun _ _ _ _ _ _ _ _ => (pg_tup rfl (pgs_cons (pg_name (i := 5) (x := "part") sc_moved_place.nd rfl (Or.inl rfl)) (pgs_cons (pg_name (i := 6) (x := "turn") sc_moved_place.nd rfl (Or.inl rfl)) pgs_nil)))) (fun _ _ _ _ _ _ _ _ hr' => pts_nil) (fun _ _ _ _ _ _ _ _ hr' => (pe_ifExp (pt_truthK (K := K) rfl (pv 6) (by intro _; rfl)) (pe_op op_sub (pe_op op_sub (pe_ix (show IxR _ (rIx K) from ix_seq) (pv 0) (pv 5) (fun _ _ => rfl)) pe_int) (pe_ix (show IxR _ (rIx K) from ix_seq) (pv 2) (pv 5) (fun _ _ => rfl))) (pe_ix (show IxR _ (rIx K) from ix_seq) (pv 2) (pv 5) (fun _ _ => rfl)))))))), ?_⟩
    refine ⟨_, rfl, pm, _, rfl, hm, rfl, _, _, rfl, _, _, rfl, rfl, ?_⟩
    refine ⟨_, rfl, _, rfl, true, true, po, pt, l3 m.1, l3 m.2, rfl, ho, ht, hT _ T.tb_moved_place, gg_any (n := 3) (fun i => (l3 (mvP s m p)).take i) (fun _ H' => Same H H') rfl (fun i _ => take_lt i (by show 3 ≤ 1000; decide)) (Same.refl _) (fun i H' hi s1 => z2_go (t1 := true) (t2 := true) (s1.tup ho) (s1.tup ht) hi hi) (fun H' s1 => z2_stop (t1 := true) (t2 := true) (s1.tup ho) (s1.tup ht) (.inl (Nat.le_refl _))) ?_ ?_⟩
    · intro i x H1 H2 Kt Kf hi s1 yl hK hKf
      obtain ⟨T', x, y, rfl, hn, rfl, e1, e2⟩ := z2_yld (t1 := true) (t2 := true) (s1.tup ho) (s1.tup ht) yl
      obtain rfl := l3_get hi e1
      obtain rfl := l3_get hi e2
      obtain ⟨b0, b1⟩ := ord_bd hord hi
      have nT := Same.new (o := .tup [.int (get3 m.1 i), .int (get3 m.2 i)]) hn
      have k := s1.trans nT
      refine ⟨T', _, rfl, SqT.of upd_same, rfl, _, _, rfl, _, _, rfl, rfl, rfl, yes_ ?_⟩
      have fin : ∀ z, z = mv1 s (get3 m.1 i) (get3 m.2 i) p → Kt (.int z) (upd H1 T' (.tup [.int (get3 m.1 i), .int (get3 m.2 i)])) := fun z e => hK _ _ (by rw [l3_take _ hi, mvP_get, e]) k
      refine ⟨_, rfl, _, rfl, ?_⟩
      cases hb : ((get3 m.2 i) != 0) with
      | true =>
        refine iteT ⟨_, rfl, _, rfl, ixq (SqB.same k h1) (at_l3 b0 b1) ⟨_, _, rfl, rfl, _, rfl, _, rfl, ixq (SqB.same k h3) (at_l3 b0 b1) ⟨_, _, rfl, rfl, fin _ ?_⟩⟩⟩
        unfold mv1
        rw [if_neg (by simpa using hb)]
      | false =>
        refine iteF ⟨_, rfl, _, rfl, ixq (SqB.same k h3) (at_l3 b0 b1) (fin _ ?_)⟩
        unfold mv1
        rw [if_pos (by simpa using hb)]
    · intro H' s1
      exact ⟨by show 3 ≤ sizeLine; decide, fun p' hp => q _ _ (s1.trans (Same.new hp)) ⟨p', rfl, upd_same⟩⟩

def sp_moved_way (K : PySem.W.Frag) (Ts : List (Addr × Array Value)) : Sp := fun vs H Q _ => ∃ (vm v3 : V) (w : T3i) (m : Mv), vs = [vm, v3] ∧ MvAt K H vm m ∧ m.1 ∈ ord3 ∧ B3 K H v3 w ∧ Tables Ts H ∧ ∀ v H', Same H H' → T3 K H' v (mvW m w) → Q v H'
theorem ok_moved_way (T : Tx K mg Ts) : FnOk P w K mg base CX0 2 T.f_moved_way T.d_moved_way ["move", "way"] (sp_moved_way K Ts) := by
  refine T.F_moved_way.ok sc_moved_way (fun vs H Q E h => ?_) (fun A outer s H vs Q E hr h => ?_)
  · obtain ⟨vm, v3, w, m, rfl, _⟩ := h; rfl
  · obtain ⟨vm, v3, w, m, rfl, ⟨pm, vo, vt, rfl, hm, ⟨po, rfl, ho⟩, ⟨pt, rfl, ht⟩⟩, hord, ⟨a3, t3, rfl, h3⟩, hT, q⟩ := h
    refine ⟨_, (pss_cons (ps_asg (pv 0) (pg_tup rfl (pgs_cons (pg_name (i := 2) (x := "order") sc_moved_way.nd rfl (Or.inl rfl)) (pgs_cons (pg_name (i := 3) (x := "turned") sc_moved_way.nd rfl (Or.inl rfl)) pgs_nil))))
      (pss_one (ps_ret (pe_tupG (ps := T.ps_moved_way) (own := [("part", 4), ("turn", 5)]) (g := (gTup K 2 (gCons (gName 4) (gCons (gName 5) gNil)))) rfl sc_moved_way.nd hr rfl T.n_tuple (pi_zip2 rfl T.n_zip (pa_cons (pv 2) (pa_cons (pv 3) pa_nil))) (blkOk_by (own := [("part", 4), ("turn", 5)]) (N := ["move", "way", "order", "turned", "part", "turn"]) (sc := defScope s_moved_way) (by decide +kernel)) ⟨rfl, by decide +kernel, by decide +kernel⟩ T.ck_moved_way T.bm (fun _ _ _ _ _ _ _ _ => (pg_tup rfl (pgs_cons (pg_name (i := 4) (x := "part") sc_moved_way.nd rfl (Or.inl rfl)) (pgs_cons (pg_name (i := 5) (x := "turn") sc_moved_way.nd rfl (Or.inl rfl)) pgs_nil)))) (fun _ _ _ _ _ _ _ _ hr' => pts_nil) (fun _ _ _ _ _ _ _ _ hr' => (pe_ifExp (pt_truthK (K := K) rfl (pv 5) (by intro _; rfl)) (pe_un un_neg (pe_ix (show IxR _ (rIx K) from ix_seq) (pv 1) (pv 4) (fun _ _ => rfl))) (pe_ix (show IxR _ (rIx K) from ix_seq) (pv 1) (pv 4) (fun _ _ => rfl)))))))), ?_⟩
    refine ⟨_, rfl, pm, _, rfl, hm, rfl, _, _, rfl, _, _, rfl, rfl, ?_⟩
    refine ⟨_, rfl, _, rfl, true, true, po, pt, l3 m.1, l3 m.2, rfl, ho, ht, hT _ T.tb_moved_way, gg_any (n := 3) (fun i => (l3 (mvW m w)).take i) (fun _ H' => Same H H') rfl (fun i _ => take_lt i (by show 3 ≤ 1000; decide)) (Same.refl _) (fun i H' hi s1 => z2_go (t1 := true) (t2 := true) (s1.tup ho) (s1.tup ht) hi hi) (fun H' s1 => z2_stop (t1 := true) (t2 := true) (s1.tup ho) (s1.tup ht) (.inl (Nat.le_refl _))) ?_ ?_⟩
    · intro i x H1 H2 Kt Kf hi s1 yl hK hKf
      obtain ⟨T', x, y, rfl, hn, rfl, e1, e2⟩ := z2_yld (t1 := true) (t2 := true) (s1.tup ho) (s1.tup ht) yl
      obtain rfl := l3_get hi e1
      obtain rfl := l3_get hi e2
      obtain ⟨b0, b1⟩ := ord_bd hord hi
      have nT := Same.new (o := .tup [.int (get3 m.1 i), .int (get3 m.2 i)]) hn
      have k := s1.trans nT
      refine ⟨T', _, rfl, SqT.of upd_same, rfl, _, _, rfl, _, _, rfl, rfl, rfl, yes_ ?_⟩
      have fin : ∀ z, z = sg1 (get3 m.1 i) (get3 m.2 i) w → Kt (.int z) (upd H1 T' (.tup [.int (get3 m.1 i), .int (get3 m.2 i)])) := fun z e => hK _ _ (by rw [l3_take _ hi, mvW_get, e]) k
      refine ⟨_, rfl, _, rfl, ?_⟩
      cases hb : ((get3 m.2 i) != 0) with
      | true =>
        refine iteT ⟨_, rfl, _, rfl, ixq (SqB.same k h3) (at_l3 b0 b1) ⟨_, rfl, fin _ ?_⟩⟩
        unfold sg1
        rw [if_neg (by simpa using hb)]
      | false =>
        refine iteF ⟨_, rfl, _, rfl, ixq (SqB.same k h3) (at_l3 b0 b1) (fin _ ?_)⟩
        unfold sg1
        rw [if_pos (by simpa using hb)]
    · intro H' s1
      exact ⟨by show 3 ≤ sizeLine; decide, fun p' hp => q _ _ (s1.trans (Same.new hp)) ⟨p', rfl, upd_same⟩⟩

def sp_after (K : PySem.W.Frag) (Ts : List (Addr × Array Value)) : Sp := fun vs H Q _ => ∃ (v1 v2 : V) (m n : Mv), vs = [v1, v2] ∧ MvAt K H v1 m ∧ IsMove m ∧ MvAt K H v2 n ∧ IsMove n ∧ Tables Ts H ∧ ∀ v H', Same H H' → MvAt K H' v (mvA m n) → Q v H'
theorem ok_after (T : Tx K mg Ts) : FnOk P w K mg base CX0 2 T.f_after T.d_after ["one", "other"] (sp_after K Ts) := by
  refine T.F_after.ok sc_after (fun vs H Q E h => ?_) (fun A outer s H vs Q E hr h => ?_)
  · obtain ⟨v1, v2, m, n, rfl, _⟩ := h; rfl
  · obtain ⟨v1, v2, m, n, rfl, ⟨p1, a1, b1, rfl, h1, ⟨o1, rfl, ho1⟩, ⟨t1, rfl, ht1⟩⟩, hm, ⟨p2, a2, b2, rfl, h2, ⟨o2, rfl, ho2⟩, ⟨t2, rfl, ht2⟩⟩, hn, hT, q⟩ := h
    refine ⟨_, (pss_cons (ps_set (i := 2) sc_after.nd rfl (Or.inl rfl) (pe_tupG (ps := T.ps_after) (own := [("part", 3)]) (g := (gName 3)) rfl sc_after.nd hr rfl T.n_tuple (pi_tup (pe_ix (show IxR _ (rIx K) from ix_seq) (pv 1) pe_int (fun _ _ => rfl))) (blkOk_by (own := [("part", 3)]) (N := ["one", "other", "order", "part", "turned", "turn"]) (sc := defScope s_after) (by decide +kernel)) ⟨rfl, by decide +kernel, by decide +kernel⟩ T.ck_after T.bm (fun _ _ _ _ _ _ _ _ => (pg_name (i := 3) (x := "part") sc_after.nd rfl (Or.inl rfl))) (fun _ _ _ _ _ _ _ _ hr' => pts_nil) (fun _ _ _ _ _ _ _ _ hr' => (pe_ix (show IxR _ (rIx K) from ix_seq) (pe_ix (show IxR _ (rIx K) from ix_seq) (pv 0) pe_int (fun _ _ => rfl)) (pv 3) (fun _ _ => rfl)))))
      (pss_cons (ps_set (i := 4) sc_after.nd rfl (Or.inl rfl) (pe_tupG (ps := T.ps_after) (own := [("part", 3), ("turn", 5)]) (g := (gTup K 2 (gCons (gName 3) (gCons (gName 5) gNil)))) rfl sc_after.nd hr rfl T.n_tuple (pi_zip2 rfl T.n_zip (pa_cons (pe_ix (show IxR _ (rIx K) from ix_seq) (pv 1) pe_int (fun _ _ => rfl)) (pa_cons (pe_ix (show IxR _ (rIx K) from ix_seq) (pv 1) pe_int (fun _ _ => rfl)) pa_nil))) (blkOk_by (own := [("part", 3), ("turn", 5)]) (N := ["one", "other", "order", "part", "turned", "turn"]) (sc := defScope s_after) (by decide +kernel)) ⟨rfl, by decide +kernel, by decide +kernel⟩ T.ck_after T.bm (fun _ _ _ _ _ _ _ _ => (pg_tup rfl (pgs_cons (pg_name (i := 3) (x := "part") sc_after.nd rfl (Or.inl rfl)) (pgs_cons (pg_name (i := 5) (x := "turn") sc_after.nd rfl (Or.inl rfl)) pgs_nil)))) (fun _ _ _ _ _ _ _ _ hr' => pts_nil) (fun _ _ _ _ _ _ _ _ hr' => (pe_op op_mod (pe_op op_add (pe_ix (show IxR _ (rIx K) from ix_seq) (pe_ix (show IxR _ (rIx K) from ix_seq) (pv 0) pe_int (fun _ _ => rfl)) (pv 3) (fun _ _ => rfl)) (pv 5)) pe_int))))
      (pss_one (ps_ret (pe_tup (pa_cons (pv 2) (pa_cons (pv 4) pa_nil))))))), ?_⟩
    refine ⟨_, rfl, ixq (b := true) h2 (i := 0) at_zero ⟨o2, rfl, ⟨_, ho2⟩, hT _ T.tb_after, gg_any (n := 3) (fun i => (l3 (mvA m n).1).take i) (fun _ H' => Same H H') rfl (fun i _ => take_lt i (by show 3 ≤ 1000; decide)) (Same.refl _) (fun i H' hi s1 => sq_go (t := true) (s1.tup ho2) hi) (fun H' s1 => sq_stop (t := true) (s1.tup ho2) (Nat.le_refl _)) ?_ ?_⟩⟩
    · intro i x H1 H2 Kt Kf hi s1 yl hK hKf
      obtain ⟨rfl, hx⟩ := sq_yld (t := true) (s1.tup ho2) yl
      obtain rfl := l3_get hi hx
      obtain ⟨b0, b1⟩ := ord_bd hn.ord hi
      refine ⟨rfl, yes_ ⟨_, rfl, ixq (b := true) (s1.tup h1) (i := 0) at_zero ⟨_, rfl, ixq (b := true) (s1.tup ho1) (at_l3 b0 b1) (hK _ _ ?_ s1)⟩⟩⟩
      rw [l3_take _ hi, mvA_get1]
    intro H1 s1
    refine ⟨by show 3 ≤ sizeLine; decide, fun po hpo => ?_⟩
    have n2 : Same H1 (upd H1 po (.tup ((l3 (mvA m n).1).take 3))) := Same.new hpo
    have g2 : T3 K (upd H1 po (.tup ((l3 (mvA m n).1).take 3))) (.ref po) (mvA m n).1 := ⟨po, rfl, upd_same⟩
    generalize upd H1 po (.tup ((l3 (mvA m n).1).take 3)) = H2 at n2 g2
    have k2 := s1.trans n2
    refine ⟨_, rfl, ixq (b := true) (k2.tup h2) (i := 0) at_zero ⟨_, rfl, ixq (b := true) (k2.tup h2) (i := 1) rfl ⟨true, true, o2, t2, l3 n.1, l3 n.2, rfl, k2.tup ho2, k2.tup ht2, k2 _ _ (hT _ T.tb_after), gg_any (n := 3) (fun i => (l3 (mvA m n).2).take i) (fun _ H' => Same H2 H') rfl (fun i _ => take_lt i (by show 3 ≤ 1000; decide)) (Same.refl _) (fun i H' hi s3 => z2_go (t1 := true) (t2 := true) (s3.tup (k2.tup ho2)) (s3.tup (k2.tup ht2)) hi hi) (fun H' s3 => z2_stop (t1 := true) (t2 := true) (s3.tup (k2.tup ho2)) (s3.tup (k2.tup ht2)) (.inl (Nat.le_refl _))) ?_ ?_⟩⟩⟩
    · intro i x H3 H4 Kt Kf hi s3 yl hK hKf
      obtain ⟨T', x, y, rfl, hn', rfl, e1, e2⟩ := z2_yld (t1 := true) (t2 := true) (s3.tup (k2.tup ho2)) (s3.tup (k2.tup ht2)) yl
      obtain rfl := l3_get hi e1
      obtain rfl := l3_get hi e2
      obtain ⟨b0, b1⟩ := ord_bd hn.ord hi
      have nT := Same.new (o := .tup [.int (get3 n.1 i), .int (get3 n.2 i)]) hn'
      have k3 := s3.trans nT
      have c3 := k2.trans k3
      refine ⟨T', _, rfl, SqT.of upd_same, rfl, _, _, rfl, _, _, rfl, rfl, rfl, yes_ ?_⟩
      refine ⟨_, rfl, ixq (b := true) (c3.tup h1) (i := 1) rfl ⟨_, rfl, ixq (b := true) (c3.tup ht1) (at_l3 b0 b1) ⟨_, rfl, _, _, rfl, rfl, _, _, rfl, rfl, (by show (0 : Int) < 2; decide), hK _ _ ?_ k3⟩⟩⟩
      rw [l3_take _ hi, mvA_get2]
    intro H3 s3
    refine ⟨by show 3 ≤ sizeLine; decide, fun pt hpt => ?_⟩
    have n4 : Same H3 (upd H3 pt (.tup ((l3 (mvA m n).2).take 3))) := Same.new hpt
    have h4 : T3 K (upd H3 pt (.tup ((l3 (mvA m n).2).take 3))) (.ref pt) (mvA m n).2 := ⟨pt, rfl, upd_same⟩
    generalize upd H3 pt (.tup ((l3 (mvA m n).2).take 3)) = H4 at n4 h4
    refine ⟨_, rfl, _, rfl, by show 2 ≤ sizeLine; decide, fun pm hpm => ?_⟩
    have n5 := Same.new (o := .tup [.ref po, .ref pt]) hpm
    exact q _ _ ((k2.trans s3).trans (n4.trans n5)) ⟨pm, _, _, rfl, SqT.of upd_same, (g2.mono ((s3.trans n4).trans n5)).q3, (h4.mono n5).q3⟩

def sp_back_of (K : PySem.W.Frag) (Ts : List (Addr × Array Value)) : Sp := fun vs H Q _ => ∃ (v1 : V) (m : Mv), vs = [v1] ∧ MvT K H v1 m ∧ IsMove m ∧ Tables Ts H ∧ ∀ v H', Same H H' → MvAt K H' v (mvB m) → Q v H'
theorem ok_back_of (T : Tx K mg Ts) : FnOk P w K mg base CX0 2 T.f_back_of T.d_back_of ["move"] (sp_back_of K Ts) := by
  refine T.F_back_of.ok sc_back_of (fun vs H Q E h => ?_) (fun A outer s H vs Q E hr h => ?_)
  · obtain ⟨v1, m, rfl, _⟩ := h; rfl
  · obtain ⟨v1, m, rfl, ⟨p1, a1, b1, rfl, h1, ⟨o1, rfl, ho1⟩, ⟨t1, rfl, ht1⟩⟩, hm, hT, q⟩ := h
    refine ⟨_, (pss_cons (ps_asg (pv 0) (pg_tup rfl (pgs_cons (pg_name (i := 1) (x := "order") sc_back_of.nd rfl (Or.inr rfl)) (pgs_cons (pg_name (i := 2) (x := "turned") sc_back_of.nd rfl (Or.inr rfl)) pgs_nil))))
      (pss_cons (ps_setLc (i := 3) (own := [("part", 4)]) (g := (gName 4)) rfl sc_back_of.nd rfl rfl (sw_true rfl rfl rfl (by decide +kernel)) (pi_range1 rfl T.n_range (pa_cons pe_int pa_nil)) (blkOk_by (own := [("part", 4)]) (N := ["move", "order", "turned", "goals", "part", "goal"]) (sc := defScope s_back_of) (by decide +kernel)) (fun _ _ _ _ _ => (pg_name (i := 4) (x := "part") sc_back_of.nd rfl (Or.inl rfl))) (fun _ _ _ _ _ => pts_nil) (fun _ _ _ _ _ => (pe_bmK (K := K) rfl PySem.F.plainAttrs_tuple PySem.F.slot_tuple_index PySem.F.type_tuple_index mt_indexT (pv 1) (pa_cons (pv 4) pa_nil))))
      (pss_one (ps_ret (pe_tup (pa_cons (pe_callTy call_tuple_of rfl T.n_tuple (by decide +kernel) (pa_cons (pv 3) pa_nil)) (pa_cons (pe_tupG (ps := T.ps_back_of) (own := [("goal", 5)]) (g := (gName 5)) rfl sc_back_of.nd hr rfl T.n_tuple (pi_list (pv 3)) (blkOk_by (own := [("goal", 5)]) (N := ["move", "order", "turned", "goals", "part", "goal"]) (sc := defScope s_back_of) (by decide +kernel)) ⟨rfl, by decide +kernel, by decide +kernel⟩ T.ck_back_of T.bm (fun _ _ _ _ _ _ _ _ => (pg_name (i := 5) (x := "goal") sc_back_of.nd rfl (Or.inl rfl))) (fun _ _ _ _ _ _ _ _ hr' => pts_nil) (fun _ _ _ _ _ _ _ _ hr' => (pe_ix (show IxR _ (rIx K) from ix_seq) (pv 2) (pv 5) (fun _ _ => rfl)))) pa_nil))))))), ?_⟩
    refine ⟨_, rfl, p1, _, rfl, SqT.of h1, rfl, _, _, rfl, _, _, rfl, rfl, ?_⟩
    have hall : ∀ k : Int, 0 ≤ k → k < 3 → m.1.1 = k ∨ m.1.2.1 = k ∨ m.1.2.2 = k := by
      intro k k0 k3
      have hk : k = 0 ∨ k = 1 ∨ k = 2 := by omega
      rcases ord_cases hm.ord with e | e | e | e | e | e <;> rw [e] <;> rcases hk with rfl | rfl | rfl <;> simp
    refine ⟨3, rfl, by decide, by decide, fun D hD => lc_range (lo := 0) (n := 3) (fun i H' => Same H H' ∧ H' D = some (.lst ((l3 (mvB m).1).take i))) ⟨Same.new hD, upd_same⟩ ?_ ?_⟩
    · rintro i H' hi ⟨g1, g2⟩
      rw [Int.zero_add]
      refine ⟨rfl, yes_ ⟨_, rfl, .inr (.inl ⟨rfl, .inr ⟨_, g1 _ _ ho1⟩⟩), _, rfl, o1, m.1, (i : Int), rfl, rfl, g1 _ _ ho1, hall _ (by omega) (by omega), ?_⟩⟩
      refine ⟨_, g2, take_lt i (by show 3 ≤ 1000; decide), g1.set hD, ?_⟩
      rw [upd_same, l3_take _ hi]
      show some (HO.lst (_ ++ [V.int (ixO m.1 (i : Int))])) = _
      match i, hi with
      | 0, _ => rfl
      | 1, _ => rfl
      | 2, _ => rfl
    rintro H1 ⟨s1, g2⟩
    have g2 : H1 D = some (.lst (l3 (mvB m).1)) := g2
    refine ⟨_, rfl, D, _, rfl, .inl ⟨SqL.of g2, fun po hpo => ?_⟩⟩
    have n2 : Same H1 (upd H1 po (.tup (l3 (mvB m).1))) := Same.new hpo
    have h2 : T3 K (upd H1 po (.tup (l3 (mvB m).1))) (.ref po) (mvB m).1 := ⟨po, rfl, upd_same⟩
    generalize upd H1 po (.tup (l3 (mvB m).1)) = H2 at n2 h2
    have k2 := s1.trans n2
    have hD2 := n2 _ _ g2
    refine ⟨_, rfl, D, rfl, ⟨_, SqL.of hD2⟩, k2 _ _ (hT _ T.tb_back_of), gg_any (n := 3) (fun i => (l3 (mvB m).2).take i) (fun _ H' => Same H2 H') rfl (fun i _ => take_lt i (by show 3 ≤ 1000; decide)) (Same.refl _) (fun i H' hi s3 => sq_go (t := false) (SqL.of (s3 _ _ hD2)) hi) (fun H' s3 => sq_stop (t := false) (SqL.of (s3 _ _ hD2)) (Nat.le_refl _)) ?_ ?_⟩
    · intro i x H3 H4 Kt Kf hi s3 yl hK hKf
      obtain ⟨rfl, hx⟩ := sq_yld (t := false) (SqL.of (s3 _ _ hD2)) yl
      obtain rfl := l3_get hi hx
      obtain ⟨b0, b1⟩ := ord_bd (mvB_move hm).ord hi
      refine ⟨rfl, yes_ ⟨_, rfl, _, rfl, ixq (b := true) (SqT.of ((k2.trans s3) _ _ ht1)) (at_l3 b0 b1) (hK _ _ ?_ s3)⟩⟩
      rw [l3_take _ hi]
      match i, hi with
      | 0, _ => rfl
      | 1, _ => rfl
      | 2, _ => rfl
    intro H3 s3
    refine ⟨by show 3 ≤ sizeLine; decide, fun pt hpt => ?_⟩
    have n4 : Same H3 (upd H3 pt (.tup ((l3 (mvB m).2).take 3))) := Same.new hpt
    have h4 : T3 K (upd H3 pt (.tup ((l3 (mvB m).2).take 3))) (.ref pt) (mvB m).2 := ⟨pt, rfl, upd_same⟩
    generalize upd H3 pt (.tup ((l3 (mvB m).2).take 3)) = H4 at n4 h4
    refine ⟨by show 2 ≤ sizeLine; decide, fun pm hpm => ?_⟩
    have n5 := Same.new (o := .tup [.ref po, .ref pt]) hpm
    exact q _ _ ((k2.trans s3).trans (n4.trans n5)) ⟨pm, _, _, rfl, SqT.of upd_same, (h2.mono ((s3.trans n4).trans n5)).q3, (h4.mono n5).q3⟩

def sp_alike (n : Nat) (K : PySem.W.Frag) (Ts : List (Addr × Array Value)) : Sp := fun vs H Q _ => ∃ (v1 v2 : V) (d : PyData), vs = [v1, v2] ∧ Dp K H v1 d ∧ Dp K H v2 d ∧ Dok n d ∧ ∀ H', Same H H' → Q (.bl true) H'
theorem ok_alike (T : Tx K mg Ts) : ∀ n, FnOk P w K mg base CX0 (n + 1) T.f_alike T.d_alike ["_law_found", "_law_due"] (sp_alike n K Ts) := by
  intro n
  induction n with
  | zero =>
    refine T.F_alike.ok sc_alike (fun vs H Q E h => ?_) (fun A outer s H vs Q E hr h => ?_)
    · obtain ⟨v1, v2, d, rfl, _⟩ := h; rfl
    · obtain ⟨v1, v2, d, rfl, h1, h2, hok, q⟩ := h
      refine ⟨_, (pss_cons (ps_if (PW.pt (pw_or (pt_cmpR op_ne (pe_callB call_isi rfl T.n_isinstance (by decide +kernel) (pa_cons (pv 0) (pa_cons (pe_bltn (v := .ty "bool") (u := .type "bool") rfl T.n_bool (by decide +kernel) rfl) pa_nil))) (pe_callB call_isi rfl T.n_isinstance (by decide +kernel) (pa_cons (pv 1) (pa_cons (pe_bltn (v := .ty "bool") (u := .type "bool") rfl T.n_bool (by decide +kernel) rfl) pa_nil))) (nomark _)) (pw_or1 (pt_cmpR op_ne (pe_callB call_isi rfl T.n_isinstance (by decide +kernel) (pa_cons (pv 0) (pa_cons (pe_bltn (v := .ty "tuple") (u := .type "tuple") rfl T.n_tuple (by decide +kernel) rfl) pa_nil))) (pe_callB call_isi rfl T.n_isinstance (by decide +kernel) (pa_cons (pv 1) (pa_cons (pe_bltn (v := .ty "tuple") (u := .type "tuple") rfl T.n_tuple (by decide +kernel) rfl) pa_nil))) (nomark _)))))
        (pss_one (ps_ret pe_bl))
        pss_nil)
      (pss_cons (ps_if (pt_not (pt_val (pe_callB call_isiT rfl T.n_isinstance boot_isi (pa_cons (pv 1) (pa_cons (pe_tup (pa_cons (pe_bltn (v := .ty "list") (u := .type "list") rfl T.n_list (by decide +kernel) rfl) (pa_cons (pe_bltn (v := .ty "tuple") (u := .type "tuple") rfl T.n_tuple (by decide +kernel) rfl) pa_nil))) pa_nil)))))
        (pss_one (ps_ret (pe_cmpR (op_eqD hr.units) (pv 0) (pv 1) (nomark _))))
        pss_nil)
      (pss_cons (ps_if (PW.pt (pw_or (pt_not (pt_val (pe_callB call_isiT rfl T.n_isinstance boot_isi (pa_cons (pv 0) (pa_cons (pe_tup (pa_cons (pe_bltn (v := .ty "list") (u := .type "list") rfl T.n_list (by decide +kernel) rfl) (pa_cons (pe_bltn (v := .ty "tuple") (u := .type "tuple") rfl T.n_tuple (by decide +kernel) rfl) pa_nil))) pa_nil))))) (pw_or1 (pt_cmpR op_ne (pe_callB call_len_seq rfl T.n_len (by decide +kernel) (pa_cons (pv 0) pa_nil)) (pe_callB call_len_seq rfl T.n_len (by decide +kernel) (pa_cons (pv 1) pa_nil)) (nomark _)))))
        (pss_one (ps_ret pe_bl))
        pss_nil)
      pss_never))), ?_⟩
      refine ⟨_, rfl, _, _, d, _, rfl, h1, kit_bool d, _, rfl, _, _, d, _, rfl, h2, kit_bool d, rfl, _, rfl, ?_⟩
      refine iteNS rfl ⟨_, rfl, _, _, d, _, rfl, h1, kit_tuple d, _, rfl, _, _, d, _, rfl, h2, kit_tuple d, rfl, _, rfl, iteNS rfl ?_⟩
      refine ⟨_, rfl, by show 2 ≤ sizeLine; decide, fun tp htp => ⟨_, tp, ["list", "tuple"], d, _, rfl, SqT.of upd_same, h2.mono (Same.new htp), kit_lt d, _, rfl, ?_⟩⟩
      obtain ⟨_, e1, e2, e3⟩ := hok.scal0
      rw [e1]
      refine iteT ⟨_, rfl, _, rfl, d, d, h1.mono (Same.new htp), h2.mono (Same.new htp), e2, e2, ?_⟩
      rw [SeqAt.eqv_refl _ e3]
      exact q _ (Same.new htp)
  | succ n G_alike =>
    refine T.F_alike.ok sc_alike (fun vs H Q E h => ?_) (fun A outer s H vs Q E hr h => ?_)
    · obtain ⟨v1, v2, d, rfl, _⟩ := h; rfl
    · obtain ⟨v1, v2, d, rfl, h1, h2, hok, q⟩ := h
      refine ⟨_, (pss_cons (ps_if (PW.pt (pw_or (pt_cmpR op_ne (pe_callB call_isi rfl T.n_isinstance (by decide +kernel) (pa_cons (pv 0) (pa_cons (pe_bltn (v := .ty "bool") (u := .type "bool") rfl T.n_bool (by decide +kernel) rfl) pa_nil))) (pe_callB call_isi rfl T.n_isinstance (by decide +kernel) (pa_cons (pv 1) (pa_cons (pe_bltn (v := .ty "bool") (u := .type "bool") rfl T.n_bool (by decide +kernel) rfl) pa_nil))) (nomark _)) (pw_or1 (pt_cmpR op_ne (pe_callB call_isi rfl T.n_isinstance (by decide +kernel) (pa_cons (pv 0) (pa_cons (pe_bltn (v := .ty "tuple") (u := .type "tuple") rfl T.n_tuple (by decide +kernel) rfl) pa_nil))) (pe_callB call_isi rfl T.n_isinstance (by decide +kernel) (pa_cons (pv 1) (pa_cons (pe_bltn (v := .ty "tuple") (u := .type "tuple") rfl T.n_tuple (by decide +kernel) rfl) pa_nil))) (nomark _)))))
        (pss_one (ps_ret pe_bl))
        pss_nil)
      (pss_cons (ps_if (pt_not (pt_val (pe_callB call_isiT rfl T.n_isinstance boot_isi (pa_cons (pv 1) (pa_cons (pe_tup (pa_cons (pe_bltn (v := .ty "list") (u := .type "list") rfl T.n_list (by decide +kernel) rfl) (pa_cons (pe_bltn (v := .ty "tuple") (u := .type "tuple") rfl T.n_tuple (by decide +kernel) rfl) pa_nil))) pa_nil)))))
        (pss_one (ps_ret (pe_cmpR (op_eqD hr.units) (pv 0) (pv 1) (nomark _))))
        pss_nil)
      (pss_cons (ps_if (PW.pt (pw_or (pt_not (pt_val (pe_callB call_isiT rfl T.n_isinstance boot_isi (pa_cons (pv 0) (pa_cons (pe_tup (pa_cons (pe_bltn (v := .ty "list") (u := .type "list") rfl T.n_list (by decide +kernel) rfl) (pa_cons (pe_bltn (v := .ty "tuple") (u := .type "tuple") rfl T.n_tuple (by decide +kernel) rfl) pa_nil))) pa_nil))))) (pw_or1 (pt_cmpR op_ne (pe_callB call_len_seq rfl T.n_len (by decide +kernel) (pa_cons (pv 0) pa_nil)) (pe_callB call_len_seq rfl T.n_len (by decide +kernel) (pa_cons (pv 1) pa_nil)) (nomark _)))))
        (pss_one (ps_ret pe_bl))
        pss_nil)
      (pss_one (ps_ret (pe_callB (cr_all rfl) rfl T.n_all (by decide +kernel) (pa_cons (pe_lc (own := [("_law_one_here", 2), ("_law_other", 3)]) (g := (gTup K 2 (gCons (gName 2) (gCons (gName 3) gNil)))) rfl sc_alike.nd (pi_zip2 rfl T.n_zip (pa_cons (pv 0) (pa_cons (pv 1) pa_nil))) (blkOk_by (own := [("_law_one_here", 2), ("_law_other", 3)]) (N := ["_law_found", "_law_due", "_law_one_here", "_law_other"]) (sc := defScope s_alike) (by decide +kernel)) (fun _ _ _ _ _ => (pg_tup rfl (pgs_cons (pg_name (i := 2) (x := "_law_one_here") sc_alike.nd rfl (Or.inl rfl)) (pgs_cons (pg_name (i := 3) (x := "_law_other") sc_alike.nd rfl (Or.inl rfl)) pgs_nil)))) (fun _ _ _ _ _ => pts_nil) (fun _ _ _ _ _ => (pe_call G_alike (hr.mono (by omega)) rfl T.g_alike T.F_alike.kp T.b_alike .nil pass0 (pa_cons (pv 2) (pa_cons (pv 3) pa_nil))))) pa_nil))))))), ?_⟩
      refine ⟨_, rfl, _, _, d, _, rfl, h1, kit_bool d, _, rfl, _, _, d, _, rfl, h2, kit_bool d, rfl, _, rfl, ?_⟩
      refine iteNS rfl ⟨_, rfl, _, _, d, _, rfl, h1, kit_tuple d, _, rfl, _, _, d, _, rfl, h2, kit_tuple d, rfl, _, rfl, iteNS rfl ?_⟩
      refine ⟨_, rfl, by show 2 ≤ sizeLine; decide, fun tp htp => ⟨_, tp, ["list", "tuple"], d, _, rfl, SqT.of upd_same, h2.mono (Same.new htp), kit_lt d, _, rfl, ?_⟩⟩
      rcases hok.split with e | ⟨ds, e, hl, hall⟩
      · rw [e.1]
        refine iteT ⟨_, rfl, _, rfl, d, d, h1.mono (Same.new htp), h2.mono (Same.new htp), e.2.1, e.2.1, ?_⟩
        rw [SeqAt.eqv_refl _ e.2.2]
        exact q _ (Same.new htp)
      · obtain ⟨hd, b, hsq⟩ := e
        rw [hd]
        obtain ⟨a1, x1, rfl, s1, all1⟩ := hsq _ _ h1
        obtain ⟨a2, x2, rfl, s2, all2⟩ := hsq _ _ h2
        have n1 := Same.new (o := .tup [V.ty "list", V.ty "tuple"]) htp
        refine iteF ⟨_, rfl, by show 2 ≤ sizeLine; decide, fun tq htq => ⟨_, tq, ["list", "tuple"], d, _, rfl, SqT.of upd_same, (h1.mono n1).mono (Same.new htq), kit_lt d, _, rfl, ?_⟩⟩
        rw [hd]
        have n2 := n1.trans (Same.new (o := .tup [V.ty "list", V.ty "tuple"]) htq)
        generalize upd (upd H tp (.tup [V.ty "list", V.ty "tuple"])) tq (.tup [V.ty "list", V.ty "tuple"]) = H2 at n2
        have s1' := SqB.same n2 s1
        have s2' := SqB.same n2 s2
        have all1' := DpAll.mono n2 all1
        have all2' := DpAll.mono n2 all2
        have el : x1.length = x2.length := all1.length.trans all2.length.symm
        refine iteF ⟨_, rfl, a1, x1, rfl, sqb_or s1', _, rfl, a2, x2, rfl, sqb_or s2', rfl, _, rfl, ?_⟩
        refine iteNS (by rw [el]) ?_
        refine ⟨_, rfl, _, rfl, b, b, a1, a2, x1, x2, rfl, s1', s2', fun D hD => lc_any (n := x1.length) (fun i H' => Same H2 H' ∧ H' D = some (.lst ((List.replicate i true).map V.bl))) ⟨Same.new hD, upd_same⟩ (fun i H' hi p => z2_go (SqB.same p.1 s1') (SqB.same p.1 s2') hi (el ▸ hi)) (fun H' p => z2_stop (SqB.same p.1 s1') (SqB.same p.1 s2') (.inl (Nat.le_refl _))) ?_ ?_⟩
        · rintro i x H1 H3 hi ⟨sm, hDl⟩ yl
          obtain ⟨T', x, y, rfl, hn, rfl, e1, e2⟩ := z2_yld (SqB.same sm s1') (SqB.same sm s2') yl
          obtain ⟨dd, hd1, dp1⟩ := (DpAll.mono sm all1').get' e1
          obtain ⟨dd', hd2, dp2⟩ := (DpAll.mono sm all2').get' e2
          rw [hd1] at hd2; cases hd2
          have nT := Same.new (o := .tup [x, y]) hn
          refine ⟨T', _, rfl, SqT.of upd_same, rfl, _, _, rfl, _, _, rfl, rfl, rfl, yes_ ?_⟩
          refine ⟨_, rfl, _, rfl, x, y, dd, rfl, dp1.mono nT, dp2.mono nT, hall _ (List.mem_of_getElem? hd1), fun H4 n4 => ⟨_, n4 _ _ (nT _ _ hDl), ?_, ((sm.trans nT).trans n4).set hD, ?_⟩⟩
          · rw [List.length_map, List.length_replicate]
            refine smallB ?_
            have := all1.length
            omega
          · rw [upd_same, List.replicate_succ', List.map_append]
            rfl
        · rintro H' ⟨sm, hDl⟩
          refine ⟨D, List.replicate x1.length true, rfl, SqL.of hDl, ?_⟩
          have : (List.replicate x1.length true).all id = true := by
            rw [List.all_eq_true]
            intro b hb
            rw [(List.mem_replicate.mp hb).2]
            rfl
          rw [this]
          exact q _ (n2.trans sm)

def sp_digits (K : PySem.W.Frag) (Ts : List (Addr × Array Value)) : Sp := fun vs H Q _ => ∃ (a : Addr) (ns : List Int) (k bs many : Int), vs = [.ref a, .int k, .int bs, .int many] ∧ SqL K H a (ns.map V.int) ∧ (0 ≤ k ∧ k ≤ 1000) ∧ (0 < bs ∧ bs < 1000000) ∧ (0 ≤ many ∧ many ≤ 1000) ∧
  ∀ l H', Same H H' → H l = none → H' l = some (.lst ((digitsF ns k bs many).map V.int)) → Q (.ref l) H'
theorem ok_digits (T : Tx K mg Ts) : FnOk P w K mg base CX0 1 T.f_digits T.d_digits ["_law_script", "_law_k", "_law_base", "_law_many"] (sp_digits K Ts) := by
  refine T.F_digits.ok sc_digits (fun vs H Q E h => ?_) (fun A outer s H vs Q E hr h => ?_)
  · obtain ⟨a, ns, k, bs, many, rfl, _⟩ := h; rfl
  · obtain ⟨a, ns, k, bs, many, rfl, hS, hk, hb, hm, q⟩ := h
    refine ⟨_, (pss_cons (ps_set (i := 4) sc_digits.nd rfl (Or.inl rfl) pe_int)
      (pss_cons (ps_if (pt_cmpR op_lt (pv 1) (pe_callB call_len_seq rfl T.n_len (by decide +kernel) (pa_cons (pv 0) pa_nil)) (nomark _))
        (pss_one (ps_set (i := 4) sc_digits.nd rfl (Or.inl rfl) (pe_ix (show IxR _ (rIx K) from ix_seq) (pv 0) (pv 1) (fun _ _ => rfl))))
        pss_nil)
      (pss_cons (ps_set (i := 5) sc_digits.nd rfl (Or.inl rfl) (pe_callB call_abs rfl T.n_abs (by decide +kernel) (pa_cons (pv 4) pa_nil)))
      (pss_cons (ps_set (i := 6) sc_digits.nd rfl (Or.inl rfl) (pe_lst pa_nil))
      (pss_cons (ps_if (pt_cmpR op_ge (pv 5) (pe_op op_pow pe_int pe_int) (nomark _))
        (pss_cons (ps_for PassesOwn.never rfl (pi_range1 rfl T.n_range (pa_cons (pv 3) pa_nil)) (pg_name (i := 7) (x := "_law_turn") sc_digits.nd rfl (Or.inl rfl))
        (pss_cons (ps_expr (pe_bm PySem.F.plainAttrs_list PySem.F.slot_list_append PySem.F.type_list_append mt_append (pv 6) (pa_cons (pe_op op_mod (pv 5) (pv 2)) pa_nil)))
      (pss_one (ps_set (i := 5) sc_digits.nd rfl (Or.inl rfl) (pe_op op_fdiv (pv 5) (pv 2))))))
      (pss_one (ps_ret (pv 6))))
        pss_nil)
      (pss_cons (ps_set (i := 5) sc_digits.nd rfl (Or.inl rfl) (pe_op op_mod (pe_op op_add (pe_op op_add (pe_op op_mul (pv 4) pe_int) (pe_op op_mul (pv 1) pe_int)) pe_int) pe_int))
      (pss_cons (ps_set (i := 5) sc_digits.nd rfl (Or.inl rfl) (pe_op op_add (pv 5) (pe_op op_mod (pe_op op_mul (pv 5) (pv 5)) pe_int)))
      (pss_cons (ps_for PassesOwn.never rfl (pi_range1 rfl T.n_range (pa_cons (pv 3) pa_nil)) (pg_name (i := 7) (x := "_law_turn") sc_digits.nd rfl (Or.inl rfl))
        (pss_cons (ps_set (i := 5) sc_digits.nd rfl (Or.inl rfl) (pe_op op_mod (pe_op op_add (pe_op op_mul (pv 5) pe_int) pe_int) pe_int))
      (pss_one (ps_expr (pe_bm PySem.F.plainAttrs_list PySem.F.slot_list_append PySem.F.type_list_append mt_append (pv 6) (pa_cons (pe_op op_mod (pe_op op_fdiv (pv 5) pe_int) (pv 2)) pa_nil))))))
      (pss_one (ps_ret (pv 6))))))))))), ?_⟩
    have eqd := digitsF_eq ns k bs many
    -- the loops
    have big : ∀ (σ : St) (c x : Int) (l : Addr) (H1 : Hp) (D : Ends) (v : Option V), σ = [some (.ref a), some (.int k), some (.int bs), some (.int many), some (.int c), some (.int x), some (.ref l), v] → Same H H1 → H l = none → H1 l = some (.lst []) →
        D.rt = Q → digitsF ns k bs many = dgBig bs many.toNat x → tSeq (tFor (iRng1 (tCons (tVar 3) tNil)) (gName 7) (tSeq (tDrop (tBM K "list" rAppend (tVar 6) (tCons (tOp (rI (fun _ j => 0 < j) fun i j => .int (i % j)) (tVar 5) (tVar 2)) tNil))) (tAsg (tOp (rI CDiv fun i j => .int (i / j)) (tVar 5) (tVar 2)) (gName 5)))) (tRet (tVar 6)) D σ H1 := by
      intro σ c x l H1 D v hσ sm hl h1 hD hdg
      subst hσ
      refine ⟨_, rfl, many, rfl, by omega, by omega, for_range (lo := 0) (n := many.toNat) (fun i σ' H' => ∃ w, σ' = [some (.ref a), some (.int k), some (.int bs), some (.int many), some (.int c), some (.int (restBig bs i x)), some (.ref l), w] ∧ Same H H' ∧ H' l = some (.lst ((dgBig bs i x).map V.int))) ⟨v, rfl, sm, h1⟩ ?_ ?_⟩
      · rintro i σ' H' hi ⟨w, rfl, sm', h'⟩
        refine ⟨_, rfl, .inl ⟨rfl, _, SqL.of h'⟩, _, rfl, _, rfl, _, _, rfl, rfl, hb.1, l, _, _, rfl, rfl, h', ?_, ?_⟩
        · rw [List.length_map, dgBig_len]
          exact small1000 (by omega)
        · refine ⟨_, rfl, _, rfl, _, _, rfl, rfl, ⟨hb.1, by omega⟩, _, rfl, sm'.set hl, ?_⟩
          rw [upd_same, dgBig_step, List.map_append]
          rfl
      · rintro σ' H' ⟨w, rfl, sm', h'⟩
        refine ⟨_, rfl, ?_⟩
        rw [hD]
        exact q l H' sm' hl (by rw [hdg]; exact h')
    have sml : ∀ (σ : St) (c x : Int) (l : Addr) (H1 : Hp) (D : Ends) (v : Option V), σ = [some (.ref a), some (.int k), some (.int bs), some (.int many), some (.int c), some (.int (seed c k)), some (.ref l), v] → Same H H1 → H l = none → H1 l = some (.lst []) →
        D.rt = Q → digitsF ns k bs many = dgLcg bs many.toNat (seed c k) → tSeq (tFor (iRng1 (tCons (tVar 3) tNil)) (gName 7) (tSeq (tAsg (tOp (rI (fun _ j => 0 < j) fun i j => .int (i % j)) (tOp (rI0 fun i j => .int (i + j)) (tOp (rI CMul fun i j => .int (i * j)) (tVar 5) (tC (.int 48271))) (tC (.int 1))) (tC (.int 2147483647))) (gName 5))
          (tDrop (tBM K "list" rAppend (tVar 6) (tCons (tOp (rI (fun _ j => 0 < j) fun i j => .int (i % j)) (tOp (rI CDiv fun i j => .int (i / j)) (tVar 5) (tC (.int 1009))) (tVar 2)) tNil))))) (tRet (tVar 6)) D σ H1 := by
      intro σ c x l H1 D v hσ sm hl h1 hD hdg
      subst hσ
      refine ⟨_, rfl, many, rfl, by omega, by omega, for_range (lo := 0) (n := many.toNat) (fun i σ' H' => ∃ w, σ' = [some (.ref a), some (.int k), some (.int bs), some (.int many), some (.int c), some (.int (restLcg i (seed c k))), some (.ref l), w] ∧ Same H H' ∧ H' l = some (.lst ((dgLcg bs i (seed c k)).map V.int))) ⟨v, rfl, sm, h1⟩ ?_ ?_⟩
      · rintro i σ' H' hi ⟨w, rfl, sm', h'⟩
        have hr := restLcg_bd c k i
        refine ⟨_, rfl, _, _, rfl, rfl, .inl ⟨by omega, by omega⟩, _, _, rfl, rfl, _, _, rfl, rfl, (by show (0 : Int) < 2147483647; decide), ?_⟩
        refine ⟨_, rfl, .inl ⟨rfl, _, SqL.of h'⟩, _, rfl, _, _, rfl, rfl, ⟨by decide, by decide⟩, _, rfl, _, _, rfl, rfl, hb.1, l, _, _, rfl, rfl, h', ?_, ?_⟩
        · rw [List.length_map, dgLcg_len]
          exact small1000 (by omega)
        · refine ⟨_, rfl, sm'.set hl, ?_⟩
          rw [upd_same, dgLcg_step, List.map_append]
          rfl
      · rintro σ' H' ⟨w, rfl, sm', h'⟩
        refine ⟨_, rfl, ?_⟩
        rw [hD]
        exact q l H' sm' hl (by rw [hdg]; exact h')
    refine ⟨_, rfl, _, rfl, a, _, rfl, .inl hS, _, _, rfl, rfl, _, rfl, ?_⟩
    rw [List.length_map]
    refine ite2 (fun hlt => ?_) (fun hlt => ?_)
    · have hlt : k < (ns.length : Int) := of_decide_eq_true hlt
      have hc : cellF ns k = ns.getD k.toNat 0 := by unfold cellF; rw [if_pos hlt]
      refine ⟨_, rfl, _, rfl, ixq (b := false) hS (at_int hk.1 hlt) ?_⟩
      rw [← hc]
      refine ⟨_, rfl, _, rfl, ?_⟩
      refine ⟨by show 0 ≤ sizeLine; decide, fun l hl => ?_⟩
      refine ⟨_, rfl, _, _, rfl, rfl, ⟨by decide, by decide, by decide⟩, _, _, rfl, rfl, _, rfl, ?_⟩
      refine ite2 (fun hg => ?_) (fun hg => ?_)
      · exact big _ (cellF ns k) (iabs (cellF ns k)) l _ _ none rfl (Same.new hl) hl upd_same rfl (eqd.1 (of_decide_eq_true hg))
      · refine ⟨_, rfl, _, _, rfl, rfl, .inr ⟨by decide, by decide⟩, _, rfl, _, _, rfl, rfl, .inr ⟨by decide, by decide⟩, _, _, rfl, rfl, _, _, rfl, rfl, _, _, rfl, rfl, (by show (0 : Int) < 2147483647; decide), ?_⟩
        have hs := seed0_bd (cellF ns k) k
        refine ⟨_, rfl, _, rfl, _, rfl, _, _, rfl, rfl, .inl ⟨by show -(2 ^ 64) < seed0 (cellF ns k) k; omega, by show seed0 (cellF ns k) k < 2 ^ 64; omega⟩, _, _, rfl, rfl, (by show (0 : Int) < 1000000007; decide), _, _, rfl, rfl, ?_⟩
        exact sml _ (cellF ns k) 0 l _ _ none rfl (Same.new hl) hl upd_same rfl (eqd.2 fun z => hg (decide_eq_true z))
    · have hlt : ¬ k < (ns.length : Int) := fun z => hlt (decide_eq_true z)
      have hc : cellF ns k = 0 := by unfold cellF; rw [if_neg hlt]
      refine ⟨_, rfl, _, rfl, ?_⟩
      refine ⟨by show 0 ≤ sizeLine; decide, fun l hl => ?_⟩
      refine ⟨_, rfl, _, _, rfl, rfl, ⟨by decide, by decide, by decide⟩, _, _, rfl, rfl, _, rfl, ?_⟩
      rw [hc] at eqd
      refine ite2 (fun hg => ?_) (fun hg => ?_)
      · exact absurd hg (by decide)
      · refine ⟨_, rfl, _, _, rfl, rfl, .inr ⟨by decide, by decide⟩, _, rfl, _, _, rfl, rfl, .inr ⟨by decide, by decide⟩, _, _, rfl, rfl, _, _, rfl, rfl, _, _, rfl, rfl, (by show (0 : Int) < 2147483647; decide), ?_⟩
        have hs := seed0_bd 0 k
        refine ⟨_, rfl, _, rfl, _, rfl, _, _, rfl, rfl, .inl ⟨by show -(2 ^ 64) < seed0 0 k; omega, by show seed0 0 k < 2 ^ 64; omega⟩, _, _, rfl, rfl, (by show (0 : Int) < 1000000007; decide), _, _, rfl, rfl, ?_⟩
        exact sml _ 0 0 l _ _ none rfl (Same.new hl) hl upd_same rfl (eqd.2 fun z => hg (decide_eq_true z))

def sp_one (K : PySem.W.Frag) (Ts : List (Addr × Array Value)) : Sp := fun vs H Q _ => ∃ (a : Addr) (ns : List Int) (k bs : Int), vs = [.ref a, .int k, .int bs] ∧ SqL K H a (ns.map V.int) ∧ (0 ≤ k ∧ k ≤ 1000) ∧ (0 < bs ∧ bs < 1000000) ∧ ∀ H', Same H H' → Q (.int (oneF ns k bs)) H'
theorem ok_one (T : Tx K mg Ts) : FnOk P w K mg base CX0 2 T.f_one T.d_one ["_law_script", "_law_k", "_law_base"] (sp_one K Ts) := by
  have G_digits := ok_digits (P := P) (w := w) (base := base) T
  refine T.F_one.ok sc_one (fun vs H Q E h => ?_) (fun A outer s H vs Q E hr h => ?_)
  · obtain ⟨a, ns, k, bs, rfl, _⟩ := h; rfl
  · obtain ⟨a, ns, k, bs, rfl, hS, hk, hb, q⟩ := h
    refine ⟨_, (pss_one (ps_ret (pe_ix (show IxR _ (rIx K) from ix_seq) (pe_call G_digits (hr.mono (by decide)) rfl T.g_digits T.F_digits.kp T.b_digits .nil pass0 (pa_cons (pv 0) (pa_cons (pv 1) (pa_cons (pv 2) (pa_cons pe_int pa_nil))))) pe_int (fun _ _ => rfl)))), ?_⟩
    refine ⟨_, rfl, _, rfl, _, rfl, a, ns, k, bs, 1, rfl, hS, hk, hb, ⟨by decide, by decide⟩, fun l H' sm hl h' => ?_⟩
    refine ixq (b := false) (SqL.of h') (v := .int (oneF ns k bs)) ?_ (q H' sm)
    have hl := digitsF_len ns k bs 1
    unfold oneF
    match e : digitsF ns k bs 1, hl with
    | [d], _ => rfl

def sp_any_sizes (K : PySem.W.Frag) (Ts : List (Addr × Array Value)) : Sp := fun vs H Q _ => ∃ (a : Addr) (ns : List Int) (k : Int), vs = [.ref a, .int k] ∧ SqL K H a (ns.map V.int) ∧ (0 ≤ k ∧ k ≤ 1000) ∧ ∀ v H', Same H H' → T3 K H' v (sizesF ns k) → Q v H'
theorem ok_any_sizes (T : Tx K mg Ts) : FnOk P w K mg base CX0 2 T.f_any_sizes T.d_any_sizes ["_law_script", "_law_k"] (sp_any_sizes K Ts) := by
  have G_digits := ok_digits (P := P) (w := w) (base := base) T
  refine T.F_any_sizes.ok sc_any_sizes (fun vs H Q E h => ?_) (fun A outer s H vs Q E hr h => ?_)
  · obtain ⟨a, ns, k, rfl, _⟩ := h; rfl
  · obtain ⟨a, ns, k, rfl, hS, hk, q⟩ := h
    refine ⟨_, (pss_cons (ps_set (i := 2) sc_any_sizes.nd rfl (Or.inl rfl) (pe_call G_digits (hr.mono (by decide)) rfl T.g_digits T.F_digits.kp T.b_digits .nil pass0 (pa_cons (pv 0) (pa_cons (pv 1) (pa_cons pe_int (pa_cons pe_int pa_nil))))))
      (pss_one (ps_ret (pe_tup (pa_cons (pe_op op_add pe_int (pe_ix (show IxR _ (rIx K) from ix_seq) (pv 2) pe_int (fun _ _ => rfl))) (pa_cons (pe_op op_add pe_int (pe_ix (show IxR _ (rIx K) from ix_seq) (pv 2) pe_int (fun _ _ => rfl))) (pa_cons (pe_op op_add pe_int (pe_ix (show IxR _ (rIx K) from ix_seq) (pv 2) pe_int (fun _ _ => rfl))) pa_nil))))))), ?_⟩
    refine ⟨_, rfl, _, rfl, a, ns, k, 6, 3, rfl, hS, hk, ⟨by decide, by decide⟩, ⟨by decide, by decide⟩, fun l H' sm hl h' => ?_⟩
    obtain ⟨x, y, z, e, _⟩ := digits3 (ns := ns) (k := k) (base := 6) (by decide)
    rw [e] at h'
    have hq : SqB K false H' l [.int x, .int y, .int z] := SqL.of h'
    refine ⟨_, rfl, ixq hq rfl ⟨_, _, rfl, rfl, _, rfl, ixq hq rfl ⟨_, _, rfl, rfl, _, rfl, ixq hq rfl ⟨_, _, rfl, rfl, by show 3 ≤ sizeLine; decide, fun p hp => ?_⟩⟩⟩⟩
    refine q _ _ (sm.trans (Same.new hp)) ?_
    unfold sizesF
    rw [e]
    exact T3.of upd_same

def sp_measure (K : PySem.W.Frag) (Ts : List (Addr × Array Value)) : Sp := fun vs H Q _ => ∃ (x y : Int), vs = [.int x, .int y] ∧ ∀ H', Same H H' → Q (.int (Int.gcd x y : Nat)) H'
theorem ok_measure (T : Tx K mg Ts) : FnOk P w K mg base CX0 1 T.f_measure T.d_measure ["_law_one_here", "_law_other"] (sp_measure K Ts) := by
  refine T.F_measure.ok sc_measure (fun vs H Q E h => ?_) (fun A outer s H vs Q E hr h => ?_)
  · obtain ⟨x, y, rfl, _⟩ := h; rfl
  · obtain ⟨x, y, rfl, q⟩ := h
    refine ⟨_, (pss_cons (ps_set (i := 0) sc_measure.nd rfl (Or.inl rfl) (pe_callB call_abs rfl T.n_abs (by decide +kernel) (pa_cons (pv 0) pa_nil)))
      (pss_cons (ps_set (i := 1) sc_measure.nd rfl (Or.inl rfl) (pe_callB call_abs rfl T.n_abs (by decide +kernel) (pa_cons (pv 1) pa_nil)))
      (pss_cons (ps_while PassesOwn.never (pt_cmpR op_gt (pv 1) pe_int (nomark _))
        (pss_cons (ps_set (i := 2) sc_measure.nd rfl (Or.inl rfl) (pe_op op_mod (pv 0) (pv 1)))
      (pss_cons (ps_set (i := 0) sc_measure.nd rfl (Or.inl rfl) (pv 1))
      (pss_one (ps_set (i := 1) sc_measure.nd rfl (Or.inl rfl) (pv 2))))))
      (pss_one (ps_ret (pv 0)))))), ?_⟩
    refine ⟨_, rfl, _, rfl, ?_⟩
    refine ⟨_, rfl, _, rfl, ?_⟩
    refine while_by (fun σ' H' => ∃ (a b : Nat) (w : Option V), σ' = [some (.int a), some (.int b), w] ∧ H' = H ∧ Nat.gcd a b = Int.gcd x y) (fun σ' _ => match σ' with | [_, some (.int b), _] => b.toNat | _ => 0) ⟨x.natAbs, y.natAbs, none, ?_, rfl, rfl⟩ ?_ ?_
    · show [some (V.int (iabs x)), some (V.int (iabs y)), none] = _
      rw [iabs_nat, iabs_nat]
    · rintro σ' H' ⟨a, b, w, rfl, rfl, hg⟩
      refine ⟨_, rfl, _, _, rfl, rfl, _, rfl, ?_⟩
      by_cases hb : (0 : Int) < (b : Int)
      · rw [decide_eq_true hb]
        refine iteT ?_
        refine ⟨_, rfl, _, rfl, _, _, rfl, rfl, hb, ?_⟩
        refine ⟨_, rfl, _, rfl, ?_⟩
        refine ⟨⟨b, a % b, some (.int ((a : Int) % (b : Int))), ?_, rfl, ?_⟩, ?_⟩
        · show [some (V.int (b : Int)), some (V.int ((a : Int) % (b : Int))), _] = _
          rw [Int.natCast_emod]
        · rw [← hg, Nat.gcd_comm b, ← Nat.gcd_rec, Nat.gcd_comm]
        · show ((a : Int) % (b : Int)).toNat < (b : Int).toNat
          have h1 := Int.emod_lt_of_pos (a : Int) hb
          have h2 := Int.emod_nonneg (a : Int) (show (b : Int) ≠ 0 by omega)
          omega
      · rw [decide_eq_false hb]
        refine iteF ?_
        refine ⟨_, rfl, ?_⟩
        have : b = 0 := by omega
        subst this
        rw [Nat.gcd_zero_right] at hg
        rw [hg]
        exact q _ (Same.refl _)
    · intro σ' H' Q1 Q2 hq h
      obtain ⟨v, e1, i, j, e2, e3, kk, e4, z⟩ := h
      exact ⟨v, e1, i, j, e2, e3, kk, e4, hq _ _ z⟩

def sp_way (K : PySem.W.Frag) (Ts : List (Addr × Array Value)) : Sp := fun vs H Q _ => ∃ (a : Addr) (ns : List Int) (k : Int), vs = [.ref a, .int k] ∧ SqL K H a (ns.map V.int) ∧ (0 ≤ k ∧ k ≤ 1000) ∧ ∀ v H', Same H H' → T3 K H' v (wayF ns k) → Q v H'
theorem ok_way (T : Tx K mg Ts) : FnOk P w K mg base CX0 3 T.f_way T.d_way ["_law_script", "_law_k"] (sp_way K Ts) := by
  have G_digits := ok_digits (P := P) (w := w) (base := base) T
  have G_one := ok_one (P := P) (w := w) (base := base) T
  have G_measure := ok_measure (P := P) (w := w) (base := base) T
  refine T.F_way.ok sc_way (fun vs H Q E h => ?_) (fun A outer s H vs Q E hr h => ?_)
  · obtain ⟨a, ns, k, rfl, _⟩ := h; rfl
  · obtain ⟨a, ns, k, rfl, hS, hk, q⟩ := h
    obtain ⟨x, y, z, e, hx, hy, hz⟩ := digits3 (ns := ns) (k := k) (base := 7) (by decide)
    -- behind the row
    obtain ⟨u, hu, rest⟩ : ∃ u, PSs (cxOf CX0 P w K mg base ["_law_script", "_law_k", "_law_row", "_law_part", "_law_measure_here"] "_law_way" (defScope s_way) T.f_way T.c_way A outer s H E).nox ((defBody s_way).drop 2) u ∧ ∀ (r : T3i) (l : Addr) (H1 : Hp) (D : Ends) (w : Option V), Same H H1 → H1 l = some (.lst (l3 r)) → rowF ns k = r → D.rt = Q → u D [some (.ref a), some (.int k), some (.ref l), w, none] H1 := by
      refine ⟨_, (pss_cons (ps_set (i := 4) sc_way.nd rfl (Or.inl rfl) (pe_call G_measure (hr.mono (by decide)) rfl T.g_measure T.F_measure.kp T.b_measure .nil pass0 (pa_cons (pe_call G_measure (hr.mono (by decide)) rfl T.g_measure T.F_measure.kp T.b_measure .nil pass0 (pa_cons (pe_ix (show IxR _ (rIx K) from ix_seq) (pv 2) pe_int (fun _ _ => rfl)) (pa_cons (pe_ix (show IxR _ (rIx K) from ix_seq) (pv 2) pe_int (fun _ _ => rfl)) pa_nil))) (pa_cons (pe_ix (show IxR _ (rIx K) from ix_seq) (pv 2) pe_int (fun _ _ => rfl)) pa_nil))))
      (pss_cons (ps_if (pt_cmpR op_eq (pv 4) pe_int (nomark _))
        (pss_one (ps_ret (pe_tup (pa_cons pe_int (pa_cons pe_int (pa_cons pe_int pa_nil))))))
        pss_nil)
      (pss_one (ps_ret (pe_tup (pa_cons (pe_op op_fdiv (pe_ix (show IxR _ (rIx K) from ix_seq) (pv 2) pe_int (fun _ _ => rfl)) (pv 4)) (pa_cons (pe_op op_fdiv (pe_ix (show IxR _ (rIx K) from ix_seq) (pv 2) pe_int (fun _ _ => rfl)) (pv 4)) (pa_cons (pe_op op_fdiv (pe_ix (show IxR _ (rIx K) from ix_seq) (pv 2) pe_int (fun _ _ => rfl)) (pv 4)) pa_nil)))))))), ?_⟩
      intro r l H1 D w sm hl hrow hD
      have hq : SqB K false H1 l (l3 r) := SqL.of hl
      refine ⟨_, rfl, ixq hq rfl ⟨_, rfl, ixq hq rfl ⟨_, _, rfl, fun H2 sm2 => ?_⟩⟩⟩
      have hq2 := SqB.same sm2 hq
      refine ⟨_, rfl, ixq hq2 rfl ⟨_, _, rfl, fun H3 sm3 => ?_⟩⟩
      have hq3 := SqB.same sm3 hq2
      refine ⟨_, rfl, rfl, _, rfl, ?_⟩
      have eg : ((Int.gcd ((Int.gcd r.1 r.2.1 : Nat) : Int) r.2.2 : Nat) : Int) = gcd3 r := rfl
      rw [eg]
      refine ite2 (fun hg => ?_) (fun hg => ?_)
      · have hg : gcd3 r = 0 := V.int.inj (of_decide_eq_true hg)
        refine ⟨by show 3 ≤ sizeLine; decide, fun p hp => ?_⟩
        rw [hD]
        refine q _ _ (((sm.trans sm2).trans sm3).trans (Same.new hp)) ?_
        unfold wayF wayOf
        rw [hrow, if_pos hg]
        exact T3.of upd_same
      · have hg : ¬ gcd3 r = 0 := fun z => hg (decide_eq_true (by rw [z]))
        have hg0 : 0 < gcd3 r := by
          have : 0 ≤ gcd3 r := Int.natCast_nonneg _
          omega
        have hg1 : gcd3 r < 1073741824 := by
          have := rowF_small ns k
          rw [hrow] at this
          exact gcd3_small this
        refine ⟨_, rfl, ixq hq3 rfl ⟨_, rfl, _, _, rfl, rfl, ⟨hg0, hg1⟩, _, rfl, ixq hq3 rfl ⟨_, rfl, _, _, rfl, rfl, ⟨hg0, hg1⟩, _, rfl, ixq hq3 rfl ⟨_, rfl, _, _, rfl, rfl, ⟨hg0, hg1⟩, by show 3 ≤ sizeLine; decide, fun p hp => ?_⟩⟩⟩⟩
        rw [hD]
        refine q _ _ (((sm.trans sm2).trans sm3).trans (Same.new hp)) ?_
        unfold wayF wayOf
        rw [hrow, if_neg hg]
        exact T3.of upd_same
    refine ⟨_, (pss_cons (ps_setLc (i := 2) (own := [("_law_part", 3)]) (g := (gName 3)) rfl sc_way.nd rfl rfl (sw_true rfl rfl rfl (by decide +kernel)) (pi_list (pe_call G_digits (hr.mono (by decide)) rfl T.g_digits T.F_digits.kp T.b_digits .nil pass0 (pa_cons (pv 0) (pa_cons (pv 1) (pa_cons pe_int (pa_cons pe_int pa_nil)))))) (blkOk_by (own := [("_law_part", 3)]) (N := ["_law_script", "_law_k", "_law_row", "_law_part", "_law_measure_here"]) (sc := defScope s_way) (by decide +kernel)) (fun _ _ _ _ _ => (pg_name (i := 3) (x := "_law_part") sc_way.nd rfl (Or.inl rfl))) (fun _ _ _ _ _ => pts_nil) (fun _ _ _ _ _ => (pe_op op_sub (pv 3) pe_int)))
      (pss_cons (ps_if (pt_cmpR op_eq (pe_op op_mod (pe_call G_one (hr.mono (by decide)) rfl T.g_one T.F_one.kp T.b_one .nil pass0 (pa_cons (pv 0) (pa_cons (pv 1) (pa_cons pe_int pa_nil)))) pe_int) pe_int (nomark _))
        (pss_one (ps_setLc (i := 2) (own := [("_law_part", 3)]) (g := (gName 3)) rfl sc_way.nd rfl rfl (sw_true rfl rfl rfl (by decide +kernel)) (pi_list (pv 2)) (blkOk_by (own := [("_law_part", 3)]) (N := ["_law_script", "_law_k", "_law_row", "_law_part", "_law_measure_here"]) (sc := defScope s_way) (by decide +kernel)) (fun _ _ _ _ _ => (pg_name (i := 3) (x := "_law_part") sc_way.nd rfl (Or.inl rfl))) (fun _ _ _ _ _ => pts_nil) (fun _ _ _ _ _ => (pe_callB (call_max2 rfl) rfl T.n_max (by decide +kernel) (pa_cons (pe_un un_neg pe_int) (pa_cons (pe_callB (call_min2 rfl) rfl T.n_min (by decide +kernel) (pa_cons pe_int (pa_cons (pv 3) pa_nil))) pa_nil))))))
        pss_nil)
      hu)), ?_⟩
    refine ⟨_, rfl, _, rfl, a, ns, k, 7, 3, rfl, hS, hk, ⟨by decide, by decide⟩, ⟨by decide, by decide⟩, fun l H1 sm hl h1 => ?_⟩
    rw [e] at h1
    refine ⟨l, rfl, ⟨_, SqL.of h1⟩, fun D hD => lc_list (K := K) (a := l) (xs := [.int x, .int y, .int z]) (fun i H' => Same H1 H' ∧ H' D = some (.lst (([.int (x - 3), .int (y - 3), .int (z - 3)] : List V).take i))) ⟨Same.new hD, upd_same⟩ (fun i H' _ p => p.1.seq (SqL.of h1)) ?_ ?_⟩
    · rintro i v H' hv ⟨s1, s2⟩
      have three : (i = 0 ∧ v = .int x) ∨ (i = 1 ∧ v = .int y) ∨ (i = 2 ∧ v = .int z) := by
        match i, hv with
        | 0, hv => exact .inl ⟨rfl, (Option.some.inj hv).symm⟩
        | 1, hv => exact .inr (.inl ⟨rfl, (Option.some.inj hv).symm⟩)
        | 2, hv => exact .inr (.inr ⟨rfl, (Option.some.inj hv).symm⟩)
        | _ + 3, hv => simp at hv
      rcases three with ⟨rfl, rfl⟩ | ⟨rfl, rfl⟩ | ⟨rfl, rfl⟩
      all_goals
        refine ⟨rfl, yes_ ⟨_, rfl, _, _, rfl, rfl, _, s2, take_lt _ (by show 3 ≤ 1000; decide), s1.set hD, upd_same⟩⟩
    · rintro H2 ⟨s1, s2⟩
      have s2 : H2 D = some (.lst [.int (x - 3), .int (y - 3), .int (z - 3)]) := s2
      refine ⟨_, rfl, _, rfl, a, ns, k, 98, rfl, (sm.trans s1).seq hS, hk, ⟨by decide, by decide⟩, fun H3 sm3 => ?_⟩
      have s3 := sm3 _ _ s2
      refine ⟨_, _, rfl, rfl, (by show (0 : Int) < 2; decide), rfl, _, rfl, ?_⟩
      refine ite2 (fun ho => ?_) (fun ho => ?_)
      · have ho : oneF ns k 98 % 2 = 0 := V.int.inj (of_decide_eq_true ho)
        refine ⟨_, rfl, D, rfl, ⟨_, SqL.of s3⟩, fun D2 hD2 => lc_list (K := K) (a := D) (xs := [.int (x - 3), .int (y - 3), .int (z - 3)]) (fun i H' => Same H3 H' ∧ H' D2 = some (.lst (([.int (clampF (x - 3)), .int (clampF (y - 3)), .int (clampF (z - 3))] : List V).take i))) ⟨Same.new hD2, upd_same⟩ (fun i H' _ p => p.1.seq (SqL.of s3)) ?_ ?_⟩
        · rintro i v H' hv ⟨u1, u2⟩
          have three : (i = 0 ∧ v = .int (x - 3)) ∨ (i = 1 ∧ v = .int (y - 3)) ∨ (i = 2 ∧ v = .int (z - 3)) := by
            match i, hv with
            | 0, hv => exact .inl ⟨rfl, (Option.some.inj hv).symm⟩
            | 1, hv => exact .inr (.inl ⟨rfl, (Option.some.inj hv).symm⟩)
            | 2, hv => exact .inr (.inr ⟨rfl, (Option.some.inj hv).symm⟩)
            | _ + 3, hv => simp at hv
          rcases three with ⟨rfl, rfl⟩ | ⟨rfl, rfl⟩ | ⟨rfl, rfl⟩
          all_goals
            refine ⟨rfl, yes_ ⟨_, rfl, _, rfl, _, _, rfl, _, _, rfl, _, u2, take_lt _ (by show 3 ≤ 1000; decide), u1.set hD2, upd_same⟩⟩
        · rintro H4 ⟨u1, u2⟩
          refine rest (clampF (x - 3), clampF (y - 3), clampF (z - 3)) D2 H4 _ _ (((sm.trans s1).trans sm3).trans u1) u2 ?_ rfl
          unfold rowF; rw [e]; dsimp only; rw [if_pos ho]
      · have ho : ¬ oneF ns k 98 % 2 = 0 := fun z => ho (decide_eq_true (by show V.int (oneF ns k 98 % 2) = V.int 0; rw [z]))
        refine rest (x - 3, y - 3, z - 3) D H3 _ _ ((sm.trans s1).trans sm3) s3 ?_ rfl
        unfold rowF; rw [e]; dsimp only; rw [if_neg ho]

theorem bit_two (n : Int) : Bit (n % 2) := by
  have := Int.emod_nonneg n (show (2 : Int) ≠ 0 by decide)
  have := Int.emod_lt_of_pos n (show (0 : Int) < 2 by decide)
  unfold Bit
  omega
def mv6 : List Expr := match defBody s_move with | .Assign _ (.List es _) _ :: _ => es | _ => []
theorem pm6 : PAllM mv6 (tC3 ord3) := ⟨fun X => @pa_c3 X mv6 ord3 (by decide +kernel)⟩
def cutMv (A : List Expr) : List Stmt → List Stmt
  | .Assign a (.List _ p) q :: z => .Assign a (.List A p) q :: z
  | z => z
theorem mv_cut : defBody s_move = cutMv mv6 (defBody s_move) := rfl
def sp_move (K : PySem.W.Frag) (Ts : List (Addr × Array Value)) : Sp := fun vs H Q _ => ∃ (a : Addr) (ns : List Int) (k : Int), vs = [.ref a, .int k] ∧ SqL K H a (ns.map V.int) ∧ (0 ≤ k ∧ k ≤ 900) ∧ ∀ v m H', Same H H' → MvT K H' v m → IsMove m → Q v H'
theorem ok_move (T : Tx K mg Ts) : FnOk P w K mg base CX0 3 T.f_move T.d_move ["_law_script", "_law_k"] (sp_move K Ts) := by
  have G_one := ok_one (P := P) (w := w) (base := base) T
  refine T.F_move.ok sc_move (fun vs H Q E h => ?_) (fun A outer s H vs Q E hr h => ?_)
  · obtain ⟨a, ns, k, rfl, _⟩ := h; rfl
  · obtain ⟨a, ns, k, rfl, hS, hk, q⟩ := h
    have pa_few6 := pm6
    have hbody := mv_cut
    generalize mv6 = A6 at pa_few6 hbody
    rw [hbody]
    refine ⟨_, (pss_cons (ps_set (i := 2) sc_move.nd rfl (Or.inl rfl) (pe_lst pa_few6.at))
      (pss_cons (ps_set (i := 3) sc_move.nd rfl (Or.inl rfl) (pe_call G_one (hr.mono (by decide)) rfl T.g_one T.F_one.kp T.b_one .nil pass0 (pa_cons (pv 0) (pa_cons (pv 1) (pa_cons pe_int pa_nil)))))
      (pss_one (ps_ret (pe_tup (pa_cons (pe_ix (show IxR _ (rIx K) from ix_seq) (pv 2) (pe_op op_fdiv (pv 3) pe_int) (fun _ _ => rfl)) (pa_cons (pe_tup (pa_cons (pe_op op_mod (pe_op op_fdiv (pv 3) pe_int) pe_int) (pa_cons (pe_op op_mod (pe_op op_fdiv (pv 3) pe_int) pe_int) (pa_cons (pe_op op_mod (pv 3) pe_int) pa_nil)))) pa_nil))))))), ?_⟩
    refine c3_go (K := K) fun xA H1 s1 aA => ⟨by rw [aA.length]; show ord3.length ≤ sizeLine; unfold ord3; decide, fun lo hlo => ?_⟩
    have hxl : xA.length = 6 := aA.length
    have n1 : Same H1 (upd H1 lo (.lst xA)) := Same.new hlo
    have hl6 : (upd H1 lo (.lst xA)) lo = some (.lst xA) := upd_same
    have aA := aA.mono n1
    generalize upd H1 lo (.lst xA) = H6 at n1 hl6 aA
    have k0 := s1.trans n1
    refine ⟨_, rfl, _, rfl, a, ns, k, 48, rfl, k0.seq hS, ⟨by omega, by omega⟩, ⟨by decide, by decide⟩, fun H7 s7 => ?_⟩
    have hn := oneF_bd (ns := ns) (k := k) (base := 48) (by decide)
    generalize oneF ns k 48 = nn at hn
    obtain ⟨vo, hv⟩ := get_lt (l := xA) (i := (nn / 8).toNat) (by omega)
    obtain ⟨o, hoo, ho⟩ := aA.get hv
    have hom : o ∈ ord3 := List.mem_of_getElem? hoo
    have hvo : atI xA (nn / 8) = some vo := at_of (j := (nn / 8).toNat) (by omega) hv
    refine ⟨_, rfl, _, rfl, _, _, rfl, rfl, ⟨by decide, by decide⟩, ixq (b := false) (SqL.of (s7 _ _ hl6)) hvo ⟨_, rfl, _, _, rfl, rfl, ⟨by decide, by decide⟩, _, _, rfl, rfl, (by show (0 : Int) < 2; decide), _, rfl, _, _, rfl, rfl, ⟨by decide, by decide⟩, _, _, rfl, rfl, (by show (0 : Int) < 2; decide), _, rfl, _, _, rfl, rfl, (by show (0 : Int) < 2; decide), by show 3 ≤ sizeLine; decide, fun pt hpt => ⟨by show 2 ≤ sizeLine; decide, fun pm hpm => ?_⟩⟩⟩
    have n8 : Same H7 (upd H7 pt (.tup [.int (nn / 4 % 2), .int (nn / 2 % 2), .int (nn % 2)])) := Same.new hpt
    have ht8 : T3 K (upd H7 pt (.tup [.int (nn / 4 % 2), .int (nn / 2 % 2), .int (nn % 2)])) (.ref pt) (nn / 4 % 2, nn / 2 % 2, nn % 2) := T3.of upd_same
    have n9 := Same.new (o := .tup [vo, .ref pt]) hpm
    exact q _ (o, nn / 4 % 2, nn / 2 % 2, nn % 2) _ (k0.trans (s7.trans (n8.trans n9))) ⟨pm, vo, .ref pt, rfl, upd_same, ho.mono (s7.trans (n8.trans n9)), ht8.mono n9⟩ ⟨hom, bit_two _, bit_two _, bit_two _⟩

def sp_moved_sizes (K : PySem.W.Frag) (Ts : List (Addr × Array Value)) : Sp := fun vs H Q _ => ∃ (v1 vm : V) (s : T3i) (m : Mv), vs = [v1, vm] ∧ B3 K H v1 s ∧ MvAt K H vm m ∧ m.1 ∈ ord3 ∧ ∀ v H', Same H H' → T3 K H' v (mvS m s) → Q v H'
theorem ok_moved_sizes (T : Tx K mg Ts) : FnOk P w K mg base CX0 1 T.f_moved_sizes T.d_moved_sizes ["_law_sizes", "_law_move_here"] (sp_moved_sizes K Ts) := by
  refine T.F_moved_sizes.ok sc_moved_sizes (fun vs H Q E h => ?_) (fun A outer s H vs Q E hr h => ?_)
  · obtain ⟨v1, vm, s, m, rfl, _⟩ := h; rfl
  · obtain ⟨v1, vm, s, m, rfl, ⟨a1, t1, rfl, h1⟩, ⟨pm, vo, vt, rfl, hm, ⟨po, rfl, ho⟩, ⟨pt, rfl, ht⟩⟩, hord, q⟩ := h
    refine ⟨_, (pss_one (ps_ret (pe_tup (pa_cons (pe_ix (show IxR _ (rIx K) from ix_seq) (pv 0) (pe_ix (show IxR _ (rIx K) from ix_seq) (pe_ix (show IxR _ (rIx K) from ix_seq) (pv 1) pe_int (fun _ _ => rfl)) pe_int (fun _ _ => rfl)) (fun _ _ => rfl)) (pa_cons (pe_ix (show IxR _ (rIx K) from ix_seq) (pv 0) (pe_ix (show IxR _ (rIx K) from ix_seq) (pe_ix (show IxR _ (rIx K) from ix_seq) (pv 1) pe_int (fun _ _ => rfl)) pe_int (fun _ _ => rfl)) (fun _ _ => rfl)) (pa_cons (pe_ix (show IxR _ (rIx K) from ix_seq) (pv 0) (pe_ix (show IxR _ (rIx K) from ix_seq) (pe_ix (show IxR _ (rIx K) from ix_seq) (pv 1) pe_int (fun _ _ => rfl)) pe_int (fun _ _ => rfl)) (fun _ _ => rfl)) pa_nil)))))), ?_⟩
    have b0 := ord_bd hord (i := 0) (by decide)
    have b1 := ord_bd hord (i := 1) (by decide)
    have b2 := ord_bd hord (i := 2) (by decide)
    refine ⟨_, rfl, _, rfl, ixq (b := true) hm (i := 0) at_zero (ixq (b := true) ho (i := 0) rfl (ixq h1 (at_l3 b0.1 b0.2) ⟨_, rfl, _, rfl, ixq (b := true) hm (i := 0) at_zero (ixq (b := true) ho (i := 1) rfl (ixq h1 (at_l3 b1.1 b1.2) ⟨_, rfl, _, rfl, ixq (b := true) hm (i := 0) at_zero (ixq (b := true) ho (i := 2) rfl (ixq h1 (at_l3 b2.1 b2.2) ⟨by show 3 ≤ sizeLine; decide, fun p hp => ?_⟩))⟩))⟩))⟩
    exact q _ _ (Same.new hp) ⟨p, rfl, upd_same⟩

def sp_moves (K : PySem.W.Frag) (Ts : List (Addr × Array Value)) : Sp := fun vs H Q _ => vs = [] ∧ ∀ l xs H', Same H H' → H l = none → H' l = some (.lst xs) → MvsAt K H' xs allMv → Q (.ref l) H'
theorem ok_moves (T : Tx K mg Ts) : FnOk P w K mg base CX0 1 T.f_moves T.d_moves [] (sp_moves K Ts) := by
  refine T.F_moves.ok sc_moves (fun vs H Q E h => ?_) (fun A outer s H vs Q E hr h => ?_)
  · obtain ⟨rfl, _⟩ := h; rfl
  · obtain ⟨rfl, q⟩ := h
    refine ⟨_, (pss_cons (ps_set (i := 0) sc_moves.nd rfl (Or.inl rfl) (pe_lst pa_nil))
      (pss_cons (ps_for PassesOwn.never rfl (pi_range1 rfl T.n_range (pa_cons pe_int pa_nil)) (pg_name (i := 1) (x := "_law_one_here") sc_moves.nd rfl (Or.inl rfl))
        (pss_one (ps_for PassesOwn.never rfl (pi_range1 rfl T.n_range (pa_cons pe_int pa_nil)) (pg_name (i := 2) (x := "_law_two") sc_moves.nd rfl (Or.inl rfl))
        (pss_one (ps_for PassesOwn.never rfl (pi_range1 rfl T.n_range (pa_cons pe_int pa_nil)) (pg_name (i := 3) (x := "_law_number") sc_moves.nd rfl (Or.inl rfl))
        (pss_one (ps_if (pt_cmpR op_ne (pv 1) (pv 2) (nomark _))
        (pss_cons (ps_set (i := 4) sc_moves.nd rfl (Or.inl rfl) (pe_tup (pa_cons (pv 1) (pa_cons (pv 2) (pa_cons (pe_op op_sub (pe_op op_sub pe_int (pv 1)) (pv 2)) pa_nil)))))
      (pss_one (ps_expr (pe_bm PySem.F.plainAttrs_list PySem.F.slot_list_append PySem.F.type_list_append mt_append (pv 0) (pa_cons (pe_tup (pa_cons (pv 4) (pa_cons (pe_tup (pa_cons (pe_op op_mod (pe_op op_fdiv (pv 3) pe_int) pe_int) (pa_cons (pe_op op_mod (pe_op op_fdiv (pv 3) pe_int) pe_int) (pa_cons (pe_op op_mod (pv 3) pe_int) pa_nil)))) pa_nil))) pa_nil)))))
        pss_nil)))))))
      (pss_one (ps_ret (pv 0))))), ?_⟩
    refine ⟨by show 0 ≤ sizeLine; decide, fun l hl => ?_⟩
    have g0 : Same H (upd H l (.lst [])) := Same.new hl
    refine ⟨3, rfl, by decide, by decide, for_range (lo := 0) (n := 3) (fun i σ' H' => ∃ (xs : List V) (w1 w2 w3 w4 : Option V), σ' = [some (.ref l), w1, w2, w3, w4] ∧ Same H H' ∧ H' l = some (.lst xs) ∧ MvsAt K H' xs (tabMv i)) ⟨[], none, none, none, none, rfl, g0, upd_same, .nil⟩ ?_ ?_⟩
    · rintro i σ' H1 hi ⟨xs, w1, w2, w3, w4, rfl, sm, hx, ha⟩
      refine ⟨3, rfl, by decide, by decide, for_range (lo := 0) (n := 3) (fun j σ' H' => ∃ (xs : List V) (w2 w3 w4 : Option V), σ' = [some (.ref l), some (.int (0 + (i : Int))), w2, w3, w4] ∧ Same H H' ∧ H' l = some (.lst xs) ∧ MvsAt K H' xs (tabMv i ++ rowMv i j)) ⟨xs, w2, w3, w4, rfl, sm, hx, by rw [show rowMv i 0 = [] from rfl, List.append_nil]; exact ha⟩ ?_ ?_⟩
      · rintro j σ' H2 hj ⟨xs, w2, w3, w4, rfl, sm, hx, ha⟩
        refine ⟨8, rfl, by decide, by decide, for_range (lo := 0) (n := 8) (fun k σ' H' => ∃ (xs : List V) (w3 w4 : Option V), σ' = [some (.ref l), some (.int (0 + (i : Int))), some (.int (0 + (j : Int))), w3, w4] ∧ Same H H' ∧ H' l = some (.lst xs) ∧ MvsAt K H' xs (tabMv i ++ rowMv i j ++ if i = j then [] else eight ((i : Int), (j : Int), (3 : Int) - i - j) k)) ⟨xs, w3, w4, rfl, sm, hx, by split <;> (first | exact (List.append_nil _).symm ▸ ha | (rw [show eight ((i : Int), (j : Int), (3 : Int) - i - j) 0 = [] from rfl, List.append_nil]; exact ha))⟩ ?_ ?_⟩
        · rintro k σ' H3 hk ⟨xs, w3, w4, rfl, sm, hx, ha⟩
          refine ⟨_, rfl, _, rfl, rfl, _, rfl, ?_⟩
          by_cases e : i = j
          · subst e
            have hd : (!decide (V.int (0 + (i : Int)) = V.int (0 + (i : Int)))) = false := by simp
            rw [hd]
            refine iteF ⟨xs, _, _, rfl, sm, hx, ?_⟩
            rw [if_pos rfl] at ha ⊢
            exact ha
          · have hd : (!decide (V.int (0 + (i : Int)) = V.int (0 + (j : Int)))) = true := by
              rw [decide_eq_false fun z => e (by have := V.int.inj z; omega)]; rfl
            rw [hd]
            rw [if_neg e] at ha
            refine iteT ?_
            refine ⟨_, rfl, _, rfl, _, rfl, _, _, rfl, rfl, _, rfl, _, _, rfl, rfl, by show 3 ≤ sizeLine; decide, fun po hpo => ?_⟩
            have n0 : Same H3 (upd H3 po (.tup [.int (0 + (i : Int)), .int (0 + (j : Int)), .int (3 - (0 + (i : Int)) - (0 + (j : Int)))])) := Same.new hpo
            have ho0 : T3 K (upd H3 po (.tup [.int (0 + (i : Int)), .int (0 + (j : Int)), .int (3 - (0 + (i : Int)) - (0 + (j : Int)))])) (.ref po) ((0 + (i : Int)), (0 + (j : Int)), (3 - (0 + (i : Int)) - (0 + (j : Int)))) := T3.of upd_same
            generalize upd H3 po (.tup [.int (0 + (i : Int)), .int (0 + (j : Int)), .int (3 - (0 + (i : Int)) - (0 + (j : Int)))]) = H4 at n0 ho0
            rw [Int.zero_add, Int.zero_add] at ho0
            refine ⟨_, rfl, .inl ⟨rfl, _, SqL.of (n0 _ _ hx)⟩, _, rfl, _, rfl, _, _, rfl, rfl, ⟨by decide, by decide⟩, _, _, rfl, rfl, (by show (0 : Int) < 2; decide), _, rfl, _, _, rfl, rfl, ⟨by decide, by decide⟩, _, _, rfl, rfl, (by show (0 : Int) < 2; decide), _, rfl, _, _, rfl, rfl, (by show (0 : Int) < 2; decide), by show 3 ≤ sizeLine; decide, fun pt hpt => ⟨by show 2 ≤ sizeLine; decide, fun pm hpm => ?_⟩⟩
            have n1 : Same H4 (upd H4 pt (.tup [.int ((0 + (k : Int)) / 4 % 2), .int ((0 + (k : Int)) / 2 % 2), .int ((0 + (k : Int)) % 2)])) := Same.new hpt
            have ht1 : T3 K (upd H4 pt (.tup [.int ((0 + (k : Int)) / 4 % 2), .int ((0 + (k : Int)) / 2 % 2), .int ((0 + (k : Int)) % 2)])) (.ref pt) ((0 + (k : Int)) / 4 % 2, (0 + (k : Int)) / 2 % 2, (0 + (k : Int)) % 2) := T3.of upd_same
            have n2 := Same.new (o := .tup [.ref po, .ref pt]) hpm
            have h2 : (upd (upd H4 pt (.tup [.int ((0 + (k : Int)) / 4 % 2), .int ((0 + (k : Int)) / 2 % 2), .int ((0 + (k : Int)) % 2)])) pm (.tup [.ref po, .ref pt])) pm = some (.tup [.ref po, .ref pt]) := upd_same
            have hbt : ((0 + (k : Int)) / 4 % 2, (0 + (k : Int)) / 2 % 2, (0 + (k : Int)) % 2) = bits3 k := by
              unfold bits3
              rw [Int.zero_add]
              rfl
            rw [hbt] at ht1
            have n12 := n1.trans n2
            have hm : MvAt K _ (.ref pm) (((i : Int), (j : Int), (3 : Int) - i - j), bits3 k) := ⟨pm, .ref po, .ref pt, rfl, SqT.of h2, (ho0.mono n12).q3, (ht1.mono n2).q3⟩
            have n := n0.trans n12
            have hx6 := n _ _ hx
            have hlen := ha.length
            rw [List.length_append, List.length_append, eight_len] at hlen
            have hl1 : (tabMv i).length ≤ 48 := tabMv_len i (by omega)
            have hl2 : (rowMv i j).length ≤ 48 := rowMv_len i j (by omega)
            refine ⟨l, xs, _, rfl, rfl, hx6, small1000 (by omega), xs ++ [.ref pm], _, _, rfl, (sm.trans n).set hl, upd_same, ?_⟩
            rw [if_neg e, eight_succ, ← List.append_assoc]
            exact MvsAt.snoc ((ha.mono n).put hx6) (hm.put hx6)
        · rintro σ' H3 ⟨xs, w3, w4, rfl, sm, hx, ha⟩
          exact ⟨xs, _, _, _, rfl, sm, hx, by rw [rowMv_succ, ← List.append_assoc]; exact ha⟩
      · rintro σ' H2 ⟨xs, w2, w3, w4, rfl, sm, hx, ha⟩
        exact ⟨xs, _, _, _, _, rfl, sm, hx, by rw [tabMv_succ]; exact ha⟩
    · rintro σ' H1 ⟨xs, w1, w2, w3, w4, rfl, sm, hx, ha⟩
      exact ⟨_, rfl, q l xs H1 sm hl hx (by rw [← tab_all]; exact ha)⟩

abbrev sp_law := spLaw
theorem ok_law (T : Tx K mg Ts) : FnOk P w K mg base CX0 6 T.f_law T.d_law ["_law_script"] (sp_law K Ts) := by
  have G_any_sizes := ok_any_sizes (P := P) (w := w) (base := base) T
  have G_move := ok_move (P := P) (w := w) (base := base) T
  have G_way := ok_way (P := P) (w := w) (base := base) T
  have G_digits := ok_digits (P := P) (w := w) (base := base) T
  have G_after := ok_after (P := P) (w := w) (base := base) T
  have G_back_of := ok_back_of (P := P) (w := w) (base := base) T
  have G_moves := ok_moves (P := P) (w := w) (base := base) T
  have G_alike := ok_alike (P := P) (w := w) (base := base) T 4
  have G_moved_sizes := ok_moved_sizes (P := P) (w := w) (base := base) T
  have G_moved_place := ok_moved_place (P := P) (w := w) (base := base) T
  have G_moved_way := ok_moved_way (P := P) (w := w) (base := base) T
  refine T.F_law.ok sc_law (fun vs H Q E h => ?_) (fun A outer s H vs Q E hr h => ?_)
  · obtain ⟨a, ns, rfl, _⟩ := h; rfl
  · obtain ⟨a, ns, rfl, hS, hlen, hT, q⟩ := h
    refine ⟨_, (pss_cons (ps_set (i := 1) sc_law.nd rfl (Or.inl rfl) (pe_call G_any_sizes (hr.mono (by decide)) rfl T.g_any_sizes T.F_any_sizes.kp T.b_any_sizes .nil pass0 (pa_cons (pv 0) (pa_cons pe_int pa_nil))))
      (pss_cons (ps_set (i := 2) sc_law.nd rfl (Or.inl rfl) (pe_call G_move (hr.mono (by decide)) rfl T.g_move T.F_move.kp T.b_move .nil pass0 (pa_cons (pv 0) (pa_cons pe_int pa_nil))))
      (pss_cons (ps_set (i := 3) sc_law.nd rfl (Or.inl rfl) (pe_call G_move (hr.mono (by decide)) rfl T.g_move T.F_move.kp T.b_move .nil pass0 (pa_cons (pv 0) (pa_cons pe_int pa_nil))))
      (pss_cons (ps_set (i := 4) sc_law.nd rfl (Or.inl rfl) (pe_call G_way (hr.mono (by decide)) rfl T.g_way T.F_way.kp T.b_way .nil pass0 (pa_cons (pv 0) (pa_cons pe_int pa_nil))))
      (pss_cons (ps_set (i := 5) sc_law.nd rfl (Or.inl rfl) (pe_call G_digits (hr.mono (by decide)) rfl T.g_digits T.F_digits.kp T.b_digits .nil pass0 (pa_cons (pv 0) (pa_cons pe_int (pa_cons pe_int (pa_cons pe_int pa_nil))))))
      (pss_cons (ps_set (i := 6) sc_law.nd rfl (Or.inl rfl) (pe_tup (pa_cons (pe_op op_mod (pe_ix (show IxR _ (rIx K) from ix_seq) (pv 5) pe_int (fun _ _ => rfl)) (pe_ix (show IxR _ (rIx K) from ix_seq) (pv 1) pe_int (fun _ _ => rfl))) (pa_cons (pe_op op_mod (pe_ix (show IxR _ (rIx K) from ix_seq) (pv 5) pe_int (fun _ _ => rfl)) (pe_ix (show IxR _ (rIx K) from ix_seq) (pv 1) pe_int (fun _ _ => rfl))) (pa_cons (pe_op op_mod (pe_ix (show IxR _ (rIx K) from ix_seq) (pv 5) pe_int (fun _ _ => rfl)) (pe_ix (show IxR _ (rIx K) from ix_seq) (pv 1) pe_int (fun _ _ => rfl))) pa_nil)))))
      (pss_cons (ps_set (i := 7) sc_law.nd rfl (Or.inl rfl) (pe_call G_after (hr.mono (by decide)) rfl T.g_after T.F_after.kp T.b_after .nil pass0 (pa_cons (pv 2) (pa_cons (pv 3) pa_nil))))
      (pss_cons (ps_set (i := 8) sc_law.nd rfl (Or.inl rfl) (pe_call G_back_of (hr.mono (by decide)) rfl T.g_back_of T.F_back_of.kp T.b_back_of .nil pass0 (pa_cons (pv 2) pa_nil)))
      (pss_cons (ps_set (i := 9) sc_law.nd rfl (Or.inl rfl) (pe_call0 G_moves (hr.mono (by decide)) rfl T.g_moves T.F_moves.kp T.b_moves .nil pass0))
      (pss_cons (ps_if (PW.pt (pw_or (pt_cmpR (show OpR _ (compareOp .NotIn) (rInD K true) from op_notInD hr.units) (pv 7) (pv 9) (by rfl)) (pw_or1 (pt_cmpR (show OpR _ (compareOp .NotIn) (rInD K true) from op_notInD hr.units) (pv 8) (pv 9) (by rfl)))))
        (pss_one (ps_ret pe_bl))
        pss_nil)
      (pss_cons (ps_if (PW.pt (pw_or (pt_not (pt_val (pe_call G_alike (hr.mono (by decide)) rfl T.g_alike T.F_alike.kp T.b_alike .nil pass0 (pa_cons (pv 7) (pa_cons (pe_ix (show IxR _ (rIx K) from ix_seq) (pv 9) (pe_bm PySem.F.plainAttrs_list PySem.F.slot_list_index PySem.F.type_list_index (mt_indexD hr.units) (pv 9) (pa_cons (pv 7) pa_nil)) (fun _ _ => rfl)) pa_nil))))) (pw_or1 (pt_not (pt_val (pe_call G_alike (hr.mono (by decide)) rfl T.g_alike T.F_alike.kp T.b_alike .nil pass0 (pa_cons (pv 8) (pa_cons (pe_ix (show IxR _ (rIx K) from ix_seq) (pv 9) (pe_bm PySem.F.plainAttrs_list PySem.F.slot_list_index PySem.F.type_list_index (mt_indexD hr.units) (pv 9) (pa_cons (pv 8) pa_nil)) (fun _ _ => rfl)) pa_nil))))))))
        (pss_one (ps_ret pe_bl))
        pss_nil)
      (pss_cons (ps_set (i := 10) sc_law.nd rfl (Or.inl rfl) (pe_call G_moved_sizes (hr.mono (by decide)) rfl T.g_moved_sizes T.F_moved_sizes.kp T.b_moved_sizes .nil pass0 (pa_cons (pv 1) (pa_cons (pv 2) pa_nil))))
      (pss_cons (ps_set (i := 11) sc_law.nd rfl (Or.inl rfl) (pe_call G_moved_place (hr.mono (by decide)) rfl T.g_moved_place T.F_moved_place.kp T.b_moved_place .nil pass0 (pa_cons (pv 1) (pa_cons (pv 2) (pa_cons (pv 6) pa_nil)))))
      (pss_cons (ps_if (pt_not (pt_val (pe_call G_alike (hr.mono (by decide)) rfl T.g_alike T.F_alike.kp T.b_alike .nil pass0 (pa_cons (pe_call G_moved_place (hr.mono (by decide)) rfl T.g_moved_place T.F_moved_place.kp T.b_moved_place .nil pass0 (pa_cons (pv 1) (pa_cons (pv 7) (pa_cons (pv 6) pa_nil)))) (pa_cons (pe_call G_moved_place (hr.mono (by decide)) rfl T.g_moved_place T.F_moved_place.kp T.b_moved_place .nil pass0 (pa_cons (pv 10) (pa_cons (pv 3) (pa_cons (pv 11) pa_nil)))) pa_nil)))))
        (pss_one (ps_ret pe_bl))
        pss_nil)
      (pss_cons (ps_if (pt_not (pt_val (pe_call G_alike (hr.mono (by decide)) rfl T.g_alike T.F_alike.kp T.b_alike .nil pass0 (pa_cons (pe_call G_moved_way (hr.mono (by decide)) rfl T.g_moved_way T.F_moved_way.kp T.b_moved_way .nil pass0 (pa_cons (pv 7) (pa_cons (pv 4) pa_nil))) (pa_cons (pe_call G_moved_way (hr.mono (by decide)) rfl T.g_moved_way T.F_moved_way.kp T.b_moved_way .nil pass0 (pa_cons (pv 3) (pa_cons (pe_call G_moved_way (hr.mono (by decide)) rfl T.g_moved_way T.F_moved_way.kp T.b_moved_way .nil pass0 (pa_cons (pv 2) (pa_cons (pv 4) pa_nil))) pa_nil))) pa_nil)))))
        (pss_one (ps_ret pe_bl))
        pss_nil)
      (pss_cons (ps_if (pt_not (pt_val (pe_call G_alike (hr.mono (by decide)) rfl T.g_alike T.F_alike.kp T.b_alike .nil pass0 (pa_cons (pe_call G_moved_place (hr.mono (by decide)) rfl T.g_moved_place T.F_moved_place.kp T.b_moved_place .nil pass0 (pa_cons (pv 10) (pa_cons (pv 8) (pa_cons (pv 11) pa_nil)))) (pa_cons (pv 6) pa_nil)))))
        (pss_one (ps_ret pe_bl))
        pss_nil)
      (pss_cons (ps_set (i := 12) sc_law.nd rfl (Or.inl rfl) (pe_tup (pa_cons (pe_tup (pa_cons pe_int (pa_cons pe_int (pa_cons pe_int pa_nil)))) (pa_cons (pe_tup (pa_cons pe_int (pa_cons pe_int (pa_cons pe_int pa_nil)))) pa_nil))))
      (pss_one (ps_ret (pe_and (pe_call G_alike (hr.mono (by decide)) rfl T.g_alike T.F_alike.kp T.b_alike .nil pass0 (pa_cons (pe_call G_after (hr.mono (by decide)) rfl T.g_after T.F_after.kp T.b_after .nil pass0 (pa_cons (pv 2) (pa_cons (pv 8) pa_nil))) (pa_cons (pv 12) pa_nil))) (pe_one (pe_call G_alike (hr.mono (by decide)) rfl T.g_alike T.F_alike.kp T.b_alike .nil pass0 (pa_cons (pe_call G_after (hr.mono (by decide)) rfl T.g_after T.F_after.kp T.b_after .nil pass0 (pa_cons (pv 8) (pa_cons (pv 2) pa_nil))) (pa_cons (pv 12) pa_nil)))))))))))))))))))))))), ?_⟩
    refine ⟨_, rfl, a, ns, 0, rfl, hS, ⟨by decide, by decide⟩, fun vs H1 s1 hs1 => ?_⟩
    have hsz := sizesF_ok ns 0
    generalize sizesF ns 0 = sz at hs1 hsz
    refine ⟨_, rfl, a, ns, 1, rfl, s1.seq hS, ⟨by decide, by decide⟩, fun v1 m H2 s2 hv1 hm => ?_⟩
    have k2 := s1.trans s2
    refine ⟨_, rfl, a, ns, 2, rfl, k2.seq hS, ⟨by decide, by decide⟩, fun v2 n H3 s3 hv2 hn => ?_⟩
    have k3 := k2.trans s3
    refine ⟨_, rfl, a, ns, 3, rfl, k3.seq hS, ⟨by decide, by decide⟩, fun vw H4 s4 hw4 => ?_⟩
    have hwy := wayF_ok ns 3
    generalize wayF ns 3 = w at hw4 hwy
    have k4 := k3.trans s4
    refine ⟨_, rfl, a, ns, 4, 60, 3, rfl, k4.seq hS, ⟨by decide, by decide⟩, ⟨by decide, by decide⟩, ⟨by decide, by decide⟩, fun l H5 s5 hl h5 => ?_⟩
    obtain ⟨x, y, z, e, hx, hy, hz⟩ := digits3 (ns := ns) (k := 4) (base := 60) (by decide)
    rw [e] at h5
    have hq : SqB K false H5 l [.int x, .int y, .int z] := SqL.of h5
    have k5 := k4.trans s5
    obtain ⟨ps, rfl, hs5⟩ := hs1.mono (((s2.trans s3).trans s4).trans s5)
    obtain ⟨⟨z1, z1'⟩, ⟨z2, z2'⟩, z3, z3'⟩ := id hsz
    have hqs : SqB K true H5 ps (l3 sz) := SqT.of hs5
    refine ⟨_, rfl, ixq hq rfl ⟨_, rfl, ixq hqs rfl ⟨_, _, rfl, rfl, (show 0 < sz.1 by omega), _, rfl, ixq hq rfl ⟨_, rfl, ixq hqs rfl ⟨_, _, rfl, rfl, (show 0 < sz.2.1 by omega), _, rfl, ixq hq rfl ⟨_, rfl, ixq hqs rfl ⟨_, _, rfl, rfl, (show 0 < sz.2.2 by omega), by show 3 ≤ sizeLine; decide, fun p hp => ?_⟩⟩⟩⟩⟩⟩⟩
    have hp6 : T3 K (upd H5 p (.tup [.int (x % sz.1), .int (y % sz.2.1), .int (z % sz.2.2)])) (.ref p) (x % sz.1, y % sz.2.1, z % sz.2.2) := T3.of upd_same
    have hin : inF sz (x % sz.1, y % sz.2.1, z % sz.2.2) = true := by
      unfold inF
      refine decide_eq_true ⟨Int.emod_nonneg _ (by omega), Int.emod_lt_of_pos _ (by omega), Int.emod_nonneg _ (by omega), Int.emod_lt_of_pos _ (by omega), Int.emod_nonneg _ (by omega), Int.emod_lt_of_pos _ (by omega)⟩
    generalize (x % sz.1, y % sz.2.1, z % sz.2.2) = pl at hp6 hin
    have n6 : Same H5 (upd H5 p (.tup [.int (x % sz.1), .int (y % sz.2.1), .int (z % sz.2.2)])) := Same.new hp
    generalize upd H5 p (.tup [.int (x % sz.1), .int (y % sz.2.1), .int (z % sz.2.2)]) = H6 at hp6 n6
    have k6 := k5.trans n6
    have hs6 : T3 K H6 (.ref ps) sz := T3.mono n6 ⟨ps, rfl, hs5⟩
    have hw6 := hw4.mono (s5.trans n6)
    have hm6 := hv1.mono ((s3.trans s4).trans (s5.trans n6))
    have hn6 := hv2.mono (s4.trans (s5.trans n6))
    have dk2 : ∀ t : Mv, Dok 4 (dMv t) := fun t => (dok_mv t).mono (by decide)
    have dk3 : ∀ t : T3i, Dok 4 (d3 t) := fun t => (Dok.d3 t).mono (by decide)
    have dkm : ∀ e ∈ allMv.map dMv, Dok 2 e := fun e he => by
      obtain ⟨t, _, rfl⟩ := List.mem_map.mp he
      exact dok_mv t
    -- both, back, moves
    refine ⟨_, rfl, _, rfl, v1, v2, m, n, rfl, hm6.mv, hm, hn6.mv, hn, fun t ht => k6 _ _ (hT t ht), fun vb H7 s7 hvb => ?_⟩
    have hmn := mvA_move hm hn
    have hbm := mvB_move hm
    refine ⟨_, rfl, v1, m, rfl, hm6.mono s7, hm, fun t ht => (k6.trans s7) _ _ (hT t ht), fun vk H8 s8 hvk => ?_⟩
    refine ⟨rfl, fun lm xm H9 s9 hlm hm9 hma => ?_⟩
    have c9 := (s7.trans s8).trans s9
    have hvb9 := hvb.mono (s8.trans s9)
    have hvk9 := hvk.mono s9
    have in1 : mvA m n ∈ allMv := mem_allMv.mpr hmn
    have in2 : mvB m ∈ allMv := mem_allMv.mpr hbm
    refine ⟨_, rfl, _, rfl, lm, xm, allMv.map dMv, dMv (mvA m n), 2, rfl, SqL.of hm9, hma.dp, hvb9.dp, dkm, dok_mv _, by decide, _, rfl, ?_⟩
    rw [any_dMv, decide_eq_true in1]
    refine iteF ⟨_, rfl, _, rfl, lm, xm, allMv.map dMv, dMv (mvB m), 2, rfl, SqL.of hm9, hma.dp, hvk9.dp, dkm, dok_mv _, by decide, _, rfl, ?_⟩
    rw [any_dMv, decide_eq_true in2]
    refine iteF ?_
    have hml : xm.length = allMv.length := hma.length
    -- told among the moves
    have i1 := List.idxOf_lt_length_of_mem in1
    have i2 := List.idxOf_lt_length_of_mem in2
    obtain ⟨y1, hy1⟩ := get_lt (l := xm) (i := allMv.idxOf (mvA m n)) (by omega)
    obtain ⟨y2, hy2⟩ := get_lt (l := xm) (i := allMv.idxOf (mvB m)) (by omega)
    obtain ⟨m1, hm1, hat1⟩ := Paired.getL hma hy1
    obtain ⟨m2, hm2, hat2⟩ := Paired.getL hma hy2
    rw [List.getElem?_eq_getElem i1, List.getElem_idxOf i1] at hm1
    rw [List.getElem?_eq_getElem i2, List.getElem_idxOf i2] at hm2
    obtain rfl := Option.some.inj hm1
    obtain rfl := Option.some.inj hm2
    refine ⟨_, rfl, _, rfl, _, rfl, .inl ⟨rfl, _, SqL.of hm9⟩, _, rfl, lm, xm, vb, allMv.map dMv, dMv (mvA m n), 2, allMv.idxOf (mvA m n), rfl, rfl, SqL.of hm9, hma.dp, hvb9.dp, dkm, dok_mv _, by decide, (ixM_parts in1).1, (ixM_parts in1).2, ?_⟩
    refine ixq (b := false) (SqL.of hm9) (at_of (j := allMv.idxOf (mvA m n)) rfl hy1) ⟨_, _, dMv (mvA m n), rfl, hvb9.dp, hat1.dp, dk2 _, fun H10 s10 => ⟨_, rfl, iteF ?_⟩⟩
    have hm10 := s10 _ _ hm9
    have hma10 := hma.mono s10
    have hvk10 := hvk9.mono s10
    refine ⟨_, rfl, _, rfl, _, rfl, .inl ⟨rfl, _, SqL.of hm10⟩, _, rfl, lm, xm, vk, allMv.map dMv, dMv (mvB m), 2, allMv.idxOf (mvB m), rfl, rfl, SqL.of hm10, hma10.dp, hvk10.dp, dkm, dok_mv _, by decide, (ixM_parts in2).1, (ixM_parts in2).2, ?_⟩
    refine ixq (b := false) (SqL.of hm10) (at_of (j := allMv.idxOf (mvB m)) rfl hy2) ⟨_, _, dMv (mvB m), rfl, hvk10.dp, (hat2.mono s10).dp, dk2 _, fun H11 s11 => ⟨_, rfl, iteF ?_⟩⟩
    have c11 := c9.trans (s10.trans s11)
    have hvb11 := hvb9.mono (s10.trans s11)
    have hvk11 := hvk10.mono s11
    -- the block, the middle
    refine ⟨_, rfl, _, rfl, _, v1, sz, m, rfl, (hs6.mono c11).b, (hm6.mono c11).mv, hm.ord, fun vB H12 s12 hvB => ?_⟩
    have c12 := c11.trans s12
    refine ⟨_, rfl, _, rfl, _, rfl, _, v1, _, sz, pl, m, rfl, (hs6.mono c12).b, (hm6.mono c12).mv, hm.ord, (hp6.mono c12).b, fun t ht => (k6.trans c12) _ _ (hT t ht), fun vM H13 s13 hvM => ?_⟩
    have c13 := c12.trans s13
    have r13 := (s12.trans s13)
    have hvB13 := hvB.mono s13
    -- places put together
    refine ⟨_, rfl, _, rfl, _, rfl, _, vb, _, sz, pl, mvA m n, rfl, (hs6.mono c13).b, hvb11.mono r13, hmn.ord, (hp6.mono c13).b, fun t ht => (k6.trans c13) _ _ (hT t ht), fun va H14 s14 hva => ?_⟩
    have c14 := c13.trans s14
    refine ⟨_, rfl, _, rfl, _, rfl, vB, v2, vM, mvS m sz, mvP sz m pl, n, rfl, (hvB13.mono s14).b, (hn6.mono c14).mv, hn.ord, (hvM.mono s14).b, fun t ht => (k6.trans c14) _ _ (hT t ht), fun vc H15 s15 hvc => ?_⟩
    rw [mvA_P hm hn] at hvc
    refine ⟨_, _, d3 (mvP sz (mvA m n) pl), rfl, (hva.mono s15).dp, hvc.dp, dk3 _, fun H16 s16 => ⟨_, rfl, iteF ?_⟩⟩
    have r16 := (s14.trans s15).trans s16
    have c16 := c13.trans r16
    have q16 := r13.trans r16
    -- ways put together
    refine ⟨_, rfl, _, rfl, vb, vw, w, mvA m n, rfl, hvb11.mono q16, hmn.ord, (hw6.mono c16).b, fun t ht => (k6.trans c16) _ _ (hT t ht), fun va2 H17 s17 hva2 => ?_⟩
    have c17 := c16.trans s17
    refine ⟨_, rfl, _, rfl, _, rfl, v1, vw, w, m, rfl, (hm6.mono c17).mv, hm.ord, (hw6.mono c17).b, fun t ht => (k6.trans c17) _ _ (hT t ht), fun vw1 H18 s18 hw1 => ?_⟩
    have c18 := c17.trans s18
    refine ⟨v2, vw1, mvW m w, n, rfl, (hn6.mono c18).mv, hn.ord, hw1.b, fun t ht => (k6.trans c18) _ _ (hT t ht), fun vw2 H19 s19 hw2 => ?_⟩
    rw [mvA_W hm hn] at hw2
    refine ⟨_, _, d3 (mvW (mvA m n) w), rfl, (hva2.mono (s18.trans s19)).dp, hw2.dp, dk3 _, fun H20 s20 => ⟨_, rfl, iteF ?_⟩⟩
    have r20 := ((s17.trans s18).trans s19).trans s20
    have c20 := c16.trans r20
    have q20 := q16.trans r20
    -- back again
    refine ⟨_, rfl, _, rfl, _, rfl, vB, vk, vM, mvS m sz, mvP sz m pl, mvB m, rfl, (hvB13.mono (r16.trans r20)).b, hvk11.mono q20, hbm.ord, (hvM.mono (r16.trans r20)).b, fun t ht => (k6.trans c20) _ _ (hT t ht), fun vd H21 s21 hvd => ?_⟩
    rw [mvA_P hm hbm, (mvB_A hm).1, mvP_0] at hvd
    have c21 := c20.trans s21
    refine ⟨_, rfl, _, _, d3 pl, rfl, hvd.dp, (hp6.mono c21).dp, dk3 _, fun H22 s22 => ⟨_, rfl, iteF ?_⟩⟩
    have c22 := c21.trans s22
    have q22 := q20.trans (s21.trans s22)
    -- still
    refine ⟨by show 3 ≤ sizeLine; decide, fun t1 ht1 => ?_⟩
    have n23 : Same H22 (upd H22 t1 (.tup [.int 0, .int 1, .int 2])) := Same.new ht1
    have g1 : T3 K (upd H22 t1 (.tup [.int 0, .int 1, .int 2])) (.ref t1) (0, 1, 2) := ⟨t1, rfl, upd_same⟩
    generalize upd H22 t1 (.tup [.int 0, .int 1, .int 2]) = H23 at n23 g1
    refine ⟨by show 3 ≤ sizeLine; decide, fun t2 ht2 => ?_⟩
    have n24 : Same H23 (upd H23 t2 (.tup [.int 0, .int 0, .int 0])) := Same.new ht2
    have g2 : T3 K (upd H23 t2 (.tup [.int 0, .int 0, .int 0])) (.ref t2) (0, 0, 0) := ⟨t2, rfl, upd_same⟩
    generalize upd H23 t2 (.tup [.int 0, .int 0, .int 0]) = H24 at n24 g2
    refine ⟨by show 2 ≤ sizeLine; decide, fun t3 ht3 => ?_⟩
    have n25 : Same H24 (upd H24 t3 (.tup [.ref t1, .ref t2])) := Same.new ht3
    have g3 : MvAt K (upd H24 t3 (.tup [.ref t1, .ref t2])) (.ref t3) mv0 := ⟨t3, .ref t1, .ref t2, rfl, SqT.of upd_same, ((g1.mono n24).mono n25).q3, (g2.mono n25).q3⟩
    generalize upd H24 t3 (.tup [.ref t1, .ref t2]) = H25 at n25 g3
    have r25 := (n23.trans n24).trans n25
    have c25 := c22.trans r25
    have q25 := q22.trans r25
    refine ⟨_, rfl, _, rfl, v1, vk, m, mvB m, rfl, (hm6.mono c25).mv, hm, hvk11.mono q25, hbm, fun t ht => (k6.trans c25) _ _ (hT t ht), fun ve H26 s26 hve => ?_⟩
    rw [(mvB_A hm).1] at hve
    refine ⟨_, rfl, _, _, dMv mv0, rfl, hve.dp, (g3.mono s26).dp, dk2 _, fun H27 s27 => ⟨_, rfl, iteT ?_⟩⟩
    have c27 := c25.trans (s26.trans s27)
    have q27 := q25.trans (s26.trans s27)
    refine ⟨_, rfl, _, rfl, vk, v1, mvB m, m, rfl, hvk11.mono q27, hbm, (hm6.mono c27).mv, hm, fun t ht => (k6.trans c27) _ _ (hT t ht), fun vf H28 s28 hvf => ?_⟩
    rw [(mvB_A hm).2] at hvf
    exact ⟨_, rfl, _, _, dMv mv0, rfl, hvf.dp, (g3.mono ((s26.trans s27).trans s28)).dp, dk2 _, fun H29 s29 => q _ ((k6.trans c27).trans (s28.trans s29))⟩

end
theorem all_mk {l : PySem.W.OpenLaw} {q : Program} {w : World} {K : PySem.W.Frag} {h : Heap} {mg : Str → Option Value} {fa : Addr} (X : K.In h) (G : TopX q mg h) (hfa : mg "law" = some (.ref fa)) {f_moved_place c_moved_place f_moved_way c_moved_way f_after c_after f_back_of c_back_of f_alike c_alike f_digits c_digits f_one c_one f_any_sizes c_any_sizes f_measure c_measure f_way c_way f_move c_move f_moved_sizes c_moved_sizes f_moves c_moves f_law c_law P_moved_place P_moved_way P_after P_back_of : Addr} {oc_moved_place kV_moved_place dc_moved_place pm_moved_place ct_moved_place oc_moved_way kV_moved_way dc_moved_way pm_moved_way ct_moved_way oc_after kV_after dc_after pm_after ct_after oc_back_of kV_back_of dc_back_of pm_back_of ct_back_of oc_alike kV_alike dc_alike pm_alike ct_alike oc_digits kV_digits dc_digits pm_digits ct_digits oc_one kV_one dc_one pm_one ct_one oc_any_sizes kV_any_sizes dc_any_sizes pm_any_sizes ct_any_sizes oc_measure kV_measure dc_measure pm_measure ct_measure oc_way kV_way dc_way pm_way ct_way oc_move kV_move dc_move pm_move ct_move oc_moved_sizes kV_moved_sizes dc_moved_sizes pm_moved_sizes ct_moved_sizes oc_moves kV_moves dc_moves pm_moves ct_moves oc_law kV_law dc_law pm_law ct_law : Value} {od_moved_place an_moved_place oo_moved_place od_moved_way an_moved_way oo_moved_way od_after an_after oo_after od_back_of an_back_of oo_back_of od_alike an_alike od_digits an_digits od_one an_one od_any_sizes an_any_sizes od_measure an_measure od_way an_way od_move an_move od_moved_sizes an_moved_sizes od_moves an_moves od_law an_law : Option Addr} {sl_moved_place os_moved_place sl_moved_way os_moved_way sl_after os_after sl_back_of os_back_of sl_alike sl_digits sl_one sl_any_sizes sl_measure sl_way sl_move sl_moved_sizes sl_moves sl_law : Array (Option Value)} {vs_moved_place vs_moved_way vs_after vs_back_of : Array Value} {fi_moved_place fi_moved_way fi_after fi_back_of : Str} {tf_moved_place tg_moved_place tt_moved_place tf_moved_way tg_moved_way tt_moved_way tf_after tg_after tt_after tf_back_of tg_back_of tt_back_of : Tok} {fl_moved_place tx_moved_place fl_moved_way tx_moved_way fl_after tx_after fl_back_of tx_back_of : Int} {if_moved_place if_moved_way if_after if_back_of : Bool}
    (a_moved_place : PySem.W.nsIn K mainGlobals "moved_place" = some (some (.ref f_moved_place)))
    (l_moved_place : K.lookup f_moved_place = some ⟨oc_moved_place, od_moved_place, .func (PySem.W.fnOf "moved_place" "moved_place" (defArgs s_moved_place) (defBody s_moved_place) (defScope s_moved_place) .none kV_moved_place dc_moved_place pm_moved_place an_moved_place (.ref c_moved_place) ct_moved_place), sl_moved_place⟩)
    (h_moved_place : PySem.W.codeIn K (.ref c_moved_place) "moved_place" = true)
    (o_moved_place : K.lookup c_moved_place = some ⟨.type "code", oo_moved_place, .fields vs_moved_place, os_moved_place⟩)
    (p_moved_place : vs_moved_place[11]? = some (.ref P_moved_place))
    (q18_moved_place : vs_moved_place.getD 18 .none = .str fi_moved_place tf_moved_place)
    (q7_moved_place : vs_moved_place.getD 7 .none = .int fl_moved_place tg_moved_place)
    (q9_moved_place : vs_moved_place.getD 9 .none = .bool if_moved_place)
    (q10_moved_place : vs_moved_place.getD 10 .none = .int tx_moved_place tt_moved_place)
    (t_moved_place : ((PyProof.Rows.recsOf q).any fun d => d.name == "moved_place") = true)
    (a_moved_way : PySem.W.nsIn K mainGlobals "moved_way" = some (some (.ref f_moved_way)))
    (l_moved_way : K.lookup f_moved_way = some ⟨oc_moved_way, od_moved_way, .func (PySem.W.fnOf "moved_way" "moved_way" (defArgs s_moved_way) (defBody s_moved_way) (defScope s_moved_way) .none kV_moved_way dc_moved_way pm_moved_way an_moved_way (.ref c_moved_way) ct_moved_way), sl_moved_way⟩)
    (h_moved_way : PySem.W.codeIn K (.ref c_moved_way) "moved_way" = true)
    (o_moved_way : K.lookup c_moved_way = some ⟨.type "code", oo_moved_way, .fields vs_moved_way, os_moved_way⟩)
    (p_moved_way : vs_moved_way[11]? = some (.ref P_moved_way))
    (q18_moved_way : vs_moved_way.getD 18 .none = .str fi_moved_way tf_moved_way)
    (q7_moved_way : vs_moved_way.getD 7 .none = .int fl_moved_way tg_moved_way)
    (q9_moved_way : vs_moved_way.getD 9 .none = .bool if_moved_way)
    (q10_moved_way : vs_moved_way.getD 10 .none = .int tx_moved_way tt_moved_way)
    (t_moved_way : ((PyProof.Rows.recsOf q).any fun d => d.name == "moved_way") = true)
    (a_after : PySem.W.nsIn K mainGlobals "after" = some (some (.ref f_after)))
    (l_after : K.lookup f_after = some ⟨oc_after, od_after, .func (PySem.W.fnOf "after" "after" (defArgs s_after) (defBody s_after) (defScope s_after) .none kV_after dc_after pm_after an_after (.ref c_after) ct_after), sl_after⟩)
    (h_after : PySem.W.codeIn K (.ref c_after) "after" = true)
    (o_after : K.lookup c_after = some ⟨.type "code", oo_after, .fields vs_after, os_after⟩)
    (p_after : vs_after[11]? = some (.ref P_after))
    (q18_after : vs_after.getD 18 .none = .str fi_after tf_after)
    (q7_after : vs_after.getD 7 .none = .int fl_after tg_after)
    (q9_after : vs_after.getD 9 .none = .bool if_after)
    (q10_after : vs_after.getD 10 .none = .int tx_after tt_after)
    (t_after : ((PyProof.Rows.recsOf q).any fun d => d.name == "after") = true)
    (a_back_of : PySem.W.nsIn K mainGlobals "back_of" = some (some (.ref f_back_of)))
    (l_back_of : K.lookup f_back_of = some ⟨oc_back_of, od_back_of, .func (PySem.W.fnOf "back_of" "back_of" (defArgs s_back_of) (defBody s_back_of) (defScope s_back_of) .none kV_back_of dc_back_of pm_back_of an_back_of (.ref c_back_of) ct_back_of), sl_back_of⟩)
    (h_back_of : PySem.W.codeIn K (.ref c_back_of) "back_of" = true)
    (o_back_of : K.lookup c_back_of = some ⟨.type "code", oo_back_of, .fields vs_back_of, os_back_of⟩)
    (p_back_of : vs_back_of[11]? = some (.ref P_back_of))
    (q18_back_of : vs_back_of.getD 18 .none = .str fi_back_of tf_back_of)
    (q7_back_of : vs_back_of.getD 7 .none = .int fl_back_of tg_back_of)
    (q9_back_of : vs_back_of.getD 9 .none = .bool if_back_of)
    (q10_back_of : vs_back_of.getD 10 .none = .int tx_back_of tt_back_of)
    (t_back_of : ((PyProof.Rows.recsOf q).any fun d => d.name == "back_of") = true)
    (a_alike : PySem.W.nsIn K mainGlobals "_law_alike" = some (some (.ref f_alike)))
    (l_alike : K.lookup f_alike = some ⟨oc_alike, od_alike, .func (PySem.W.fnOf "_law_alike" "_law_alike" (defArgs s_alike) (defBody s_alike) (defScope s_alike) .none kV_alike dc_alike pm_alike an_alike (.ref c_alike) ct_alike), sl_alike⟩)
    (h_alike : PySem.W.codeIn K (.ref c_alike) "_law_alike" = true)
    (a_digits : PySem.W.nsIn K mainGlobals "_law_digits" = some (some (.ref f_digits)))
    (l_digits : K.lookup f_digits = some ⟨oc_digits, od_digits, .func (PySem.W.fnOf "_law_digits" "_law_digits" (defArgs s_digits) (defBody s_digits) (defScope s_digits) .none kV_digits dc_digits pm_digits an_digits (.ref c_digits) ct_digits), sl_digits⟩)
    (h_digits : PySem.W.codeIn K (.ref c_digits) "_law_digits" = true)
    (a_one : PySem.W.nsIn K mainGlobals "_law_one" = some (some (.ref f_one)))
    (l_one : K.lookup f_one = some ⟨oc_one, od_one, .func (PySem.W.fnOf "_law_one" "_law_one" (defArgs s_one) (defBody s_one) (defScope s_one) .none kV_one dc_one pm_one an_one (.ref c_one) ct_one), sl_one⟩)
    (h_one : PySem.W.codeIn K (.ref c_one) "_law_one" = true)
    (a_any_sizes : PySem.W.nsIn K mainGlobals "_law_any_sizes" = some (some (.ref f_any_sizes)))
    (l_any_sizes : K.lookup f_any_sizes = some ⟨oc_any_sizes, od_any_sizes, .func (PySem.W.fnOf "_law_any_sizes" "_law_any_sizes" (defArgs s_any_sizes) (defBody s_any_sizes) (defScope s_any_sizes) .none kV_any_sizes dc_any_sizes pm_any_sizes an_any_sizes (.ref c_any_sizes) ct_any_sizes), sl_any_sizes⟩)
    (h_any_sizes : PySem.W.codeIn K (.ref c_any_sizes) "_law_any_sizes" = true)
    (a_measure : PySem.W.nsIn K mainGlobals "_law_measure" = some (some (.ref f_measure)))
    (l_measure : K.lookup f_measure = some ⟨oc_measure, od_measure, .func (PySem.W.fnOf "_law_measure" "_law_measure" (defArgs s_measure) (defBody s_measure) (defScope s_measure) .none kV_measure dc_measure pm_measure an_measure (.ref c_measure) ct_measure), sl_measure⟩)
    (h_measure : PySem.W.codeIn K (.ref c_measure) "_law_measure" = true)
    (a_way : PySem.W.nsIn K mainGlobals "_law_way" = some (some (.ref f_way)))
    (l_way : K.lookup f_way = some ⟨oc_way, od_way, .func (PySem.W.fnOf "_law_way" "_law_way" (defArgs s_way) (defBody s_way) (defScope s_way) .none kV_way dc_way pm_way an_way (.ref c_way) ct_way), sl_way⟩)
    (h_way : PySem.W.codeIn K (.ref c_way) "_law_way" = true)
    (a_move : PySem.W.nsIn K mainGlobals "_law_move" = some (some (.ref f_move)))
    (l_move : K.lookup f_move = some ⟨oc_move, od_move, .func (PySem.W.fnOf "_law_move" "_law_move" (defArgs s_move) (defBody s_move) (defScope s_move) .none kV_move dc_move pm_move an_move (.ref c_move) ct_move), sl_move⟩)
    (h_move : PySem.W.codeIn K (.ref c_move) "_law_move" = true)
    (a_moved_sizes : PySem.W.nsIn K mainGlobals "_law_moved_sizes" = some (some (.ref f_moved_sizes)))
    (l_moved_sizes : K.lookup f_moved_sizes = some ⟨oc_moved_sizes, od_moved_sizes, .func (PySem.W.fnOf "_law_moved_sizes" "_law_moved_sizes" (defArgs s_moved_sizes) (defBody s_moved_sizes) (defScope s_moved_sizes) .none kV_moved_sizes dc_moved_sizes pm_moved_sizes an_moved_sizes (.ref c_moved_sizes) ct_moved_sizes), sl_moved_sizes⟩)
    (h_moved_sizes : PySem.W.codeIn K (.ref c_moved_sizes) "_law_moved_sizes" = true)
    (a_moves : PySem.W.nsIn K mainGlobals "_law_moves" = some (some (.ref f_moves)))
    (l_moves : K.lookup f_moves = some ⟨oc_moves, od_moves, .func (PySem.W.fnOf "_law_moves" "_law_moves" (defArgs s_moves) (defBody s_moves) (defScope s_moves) .none kV_moves dc_moves pm_moves an_moves (.ref c_moves) ct_moves), sl_moves⟩)
    (h_moves : PySem.W.codeIn K (.ref c_moves) "_law_moves" = true)
    (a_law : PySem.W.nsIn K mainGlobals "law" = some (some (.ref f_law)))
    (l_law : K.lookup f_law = some ⟨oc_law, od_law, .func (PySem.W.fnOf "law" "law" (defArgs s_law) (defBody s_law) (defScope s_law) .none kV_law dc_law pm_law an_law (.ref c_law) ct_law), sl_law⟩)
    (h_law : PySem.W.codeIn K (.ref c_law) "law" = true)
    (z_abs : PySem.W.nsIn K mainGlobals "abs" = some none)
    (z_all : PySem.W.nsIn K mainGlobals "all" = some none)
    (z_bool : PySem.W.nsIn K mainGlobals "bool" = some none)
    (z_isinstance : PySem.W.nsIn K mainGlobals "isinstance" = some none)
    (z_len : PySem.W.nsIn K mainGlobals "len" = some none)
    (z_list : PySem.W.nsIn K mainGlobals "list" = some none)
    (z_max : PySem.W.nsIn K mainGlobals "max" = some none)
    (z_min : PySem.W.nsIn K mainGlobals "min" = some none)
    (z_range : PySem.W.nsIn K mainGlobals "range" = some none)
    (z_tuple : PySem.W.nsIn K mainGlobals "tuple" = some none)
    (z_zip : PySem.W.nsIn K mainGlobals "zip" = some none)
    (ne : apartB [f_moved_place, c_moved_place, f_moved_way, c_moved_way, f_after, c_after, f_back_of, c_back_of, f_alike, c_alike, f_digits, c_digits, f_one, c_one, f_any_sizes, c_any_sizes, f_measure, c_measure, f_way, c_way, f_move, c_move, f_moved_sizes, c_moved_sizes, f_moves, c_moves, f_law, c_law] [P_moved_place, P_moved_way, P_after, P_back_of] = true) :
    ∃ (K' : PySem.W.Frag) (Ts : List (Addr × Array Value)) (fd : FuncData), (∀ b o, K'.lookup b = some o → b ∉ Ts.map (·.1) ∧ h.get? b = some o) ∧ (Ts.map (·.1)).Nodup ∧ (∀ t ∈ Ts, TabK h t.1 t.2) ∧ (∀ (s : Shared) (u : Value), BindsTo s fd ⟨[u], []⟩ [("_law_script", u)]) ∧
      ∀ base : Heap, K'.In base → base.Ns mainGlobals mg → FnOk l.prog w K' mg base CX0 6 fa fd ["_law_script"] (spLaw K' Ts) := by
  have e : f_law = fa := Value.ref.inj (Option.some.inj ((PySem.W.mg_of X G.g a_law).symm.trans hfa))
  subst e
  obtain ⟨bm, ob, hb1, hb2, hb3, hb4, hb5, hb6⟩ := G.bm
  have dj := apartB_ok ne
  have d0 : f_moved_place ∉ [P_moved_place, P_moved_way, P_after, P_back_of] := dj.1 _ (by simp)
  have d1 : c_moved_place ∉ [P_moved_place, P_moved_way, P_after, P_back_of] := dj.1 _ (by simp)
  have d2 : f_moved_way ∉ [P_moved_place, P_moved_way, P_after, P_back_of] := dj.1 _ (by simp)
  have d3 : c_moved_way ∉ [P_moved_place, P_moved_way, P_after, P_back_of] := dj.1 _ (by simp)
  have d4 : f_after ∉ [P_moved_place, P_moved_way, P_after, P_back_of] := dj.1 _ (by simp)
  have d5 : c_after ∉ [P_moved_place, P_moved_way, P_after, P_back_of] := dj.1 _ (by simp)
  have d6 : f_back_of ∉ [P_moved_place, P_moved_way, P_after, P_back_of] := dj.1 _ (by simp)
  have d7 : c_back_of ∉ [P_moved_place, P_moved_way, P_after, P_back_of] := dj.1 _ (by simp)
  have d8 : f_alike ∉ [P_moved_place, P_moved_way, P_after, P_back_of] := dj.1 _ (by simp)
  have d9 : c_alike ∉ [P_moved_place, P_moved_way, P_after, P_back_of] := dj.1 _ (by simp)
  have d10 : f_digits ∉ [P_moved_place, P_moved_way, P_after, P_back_of] := dj.1 _ (by simp)
  have d11 : c_digits ∉ [P_moved_place, P_moved_way, P_after, P_back_of] := dj.1 _ (by simp)
  have d12 : f_one ∉ [P_moved_place, P_moved_way, P_after, P_back_of] := dj.1 _ (by simp)
  have d13 : c_one ∉ [P_moved_place, P_moved_way, P_after, P_back_of] := dj.1 _ (by simp)
  have d14 : f_any_sizes ∉ [P_moved_place, P_moved_way, P_after, P_back_of] := dj.1 _ (by simp)
  have d15 : c_any_sizes ∉ [P_moved_place, P_moved_way, P_after, P_back_of] := dj.1 _ (by simp)
  have d16 : f_measure ∉ [P_moved_place, P_moved_way, P_after, P_back_of] := dj.1 _ (by simp)
  have d17 : c_measure ∉ [P_moved_place, P_moved_way, P_after, P_back_of] := dj.1 _ (by simp)
  have d18 : f_way ∉ [P_moved_place, P_moved_way, P_after, P_back_of] := dj.1 _ (by simp)
  have d19 : c_way ∉ [P_moved_place, P_moved_way, P_after, P_back_of] := dj.1 _ (by simp)
  have d20 : f_move ∉ [P_moved_place, P_moved_way, P_after, P_back_of] := dj.1 _ (by simp)
  have d21 : c_move ∉ [P_moved_place, P_moved_way, P_after, P_back_of] := dj.1 _ (by simp)
  have d22 : f_moved_sizes ∉ [P_moved_place, P_moved_way, P_after, P_back_of] := dj.1 _ (by simp)
  have d23 : c_moved_sizes ∉ [P_moved_place, P_moved_way, P_after, P_back_of] := dj.1 _ (by simp)
  have d24 : f_moves ∉ [P_moved_place, P_moved_way, P_after, P_back_of] := dj.1 _ (by simp)
  have d25 : c_moves ∉ [P_moved_place, P_moved_way, P_after, P_back_of] := dj.1 _ (by simp)
  have d26 : f_law ∉ [P_moved_place, P_moved_way, P_after, P_back_of] := dj.1 _ (by simp)
  have d27 : c_law ∉ [P_moved_place, P_moved_way, P_after, P_back_of] := dj.1 _ (by simp)
  have tk_moved_place := tabK_mk X (G.at t_moved_place) (PySem.W.mg_of X G.g a_moved_place) l_moved_place rfl o_moved_place p_moved_place
  have tk_moved_way := tabK_mk X (G.at t_moved_way) (PySem.W.mg_of X G.g a_moved_way) l_moved_way rfl o_moved_way p_moved_way
  have tk_after := tabK_mk X (G.at t_after) (PySem.W.mg_of X G.g a_after) l_after rfl o_after p_after
  have tk_back_of := tabK_mk X (G.at t_back_of) (PySem.W.mg_of X G.g a_back_of) l_back_of rfl o_back_of p_back_of
  have F_moved_place := funC_mk (K := K) (Ps := [P_moved_place, P_moved_way, P_after, P_back_of]) (bm := bm) (ob := ob) (st := s_moved_place) d0 d1 l_moved_place h_moved_place
  have b_moved_place := F_moved_place.binds (ps := ["sizes", "move", "place"]) fun _ _ _ _ _ _ us hl => match us, hl with | [_, _, _], _ => rfl
  have F_moved_way := funC_mk (K := K) (Ps := [P_moved_place, P_moved_way, P_after, P_back_of]) (bm := bm) (ob := ob) (st := s_moved_way) d2 d3 l_moved_way h_moved_way
  have b_moved_way := F_moved_way.binds (ps := ["move", "way"]) fun _ _ _ _ _ _ us hl => match us, hl with | [_, _], _ => rfl
  have F_after := funC_mk (K := K) (Ps := [P_moved_place, P_moved_way, P_after, P_back_of]) (bm := bm) (ob := ob) (st := s_after) d4 d5 l_after h_after
  have b_after := F_after.binds (ps := ["one", "other"]) fun _ _ _ _ _ _ us hl => match us, hl with | [_, _], _ => rfl
  have F_back_of := funC_mk (K := K) (Ps := [P_moved_place, P_moved_way, P_after, P_back_of]) (bm := bm) (ob := ob) (st := s_back_of) d6 d7 l_back_of h_back_of
  have b_back_of := F_back_of.binds (ps := ["move"]) fun _ _ _ _ _ _ us hl => match us, hl with | [_], _ => rfl
  have F_alike := funC_mk (K := K) (Ps := [P_moved_place, P_moved_way, P_after, P_back_of]) (bm := bm) (ob := ob) (st := s_alike) d8 d9 l_alike h_alike
  have b_alike := F_alike.binds (ps := ["_law_found", "_law_due"]) fun _ _ _ _ _ _ us hl => match us, hl with | [_, _], _ => rfl
  have F_digits := funC_mk (K := K) (Ps := [P_moved_place, P_moved_way, P_after, P_back_of]) (bm := bm) (ob := ob) (st := s_digits) d10 d11 l_digits h_digits
  have b_digits := F_digits.binds (ps := ["_law_script", "_law_k", "_law_base", "_law_many"]) fun _ _ _ _ _ _ us hl => match us, hl with | [_, _, _, _], _ => rfl
  have F_one := funC_mk (K := K) (Ps := [P_moved_place, P_moved_way, P_after, P_back_of]) (bm := bm) (ob := ob) (st := s_one) d12 d13 l_one h_one
  have b_one := F_one.binds (ps := ["_law_script", "_law_k", "_law_base"]) fun _ _ _ _ _ _ us hl => match us, hl with | [_, _, _], _ => rfl
  have F_any_sizes := funC_mk (K := K) (Ps := [P_moved_place, P_moved_way, P_after, P_back_of]) (bm := bm) (ob := ob) (st := s_any_sizes) d14 d15 l_any_sizes h_any_sizes
  have b_any_sizes := F_any_sizes.binds (ps := ["_law_script", "_law_k"]) fun _ _ _ _ _ _ us hl => match us, hl with | [_, _], _ => rfl
  have F_measure := funC_mk (K := K) (Ps := [P_moved_place, P_moved_way, P_after, P_back_of]) (bm := bm) (ob := ob) (st := s_measure) d16 d17 l_measure h_measure
  have b_measure := F_measure.binds (ps := ["_law_one_here", "_law_other"]) fun _ _ _ _ _ _ us hl => match us, hl with | [_, _], _ => rfl
  have F_way := funC_mk (K := K) (Ps := [P_moved_place, P_moved_way, P_after, P_back_of]) (bm := bm) (ob := ob) (st := s_way) d18 d19 l_way h_way
  have b_way := F_way.binds (ps := ["_law_script", "_law_k"]) fun _ _ _ _ _ _ us hl => match us, hl with | [_, _], _ => rfl
  have F_move := funC_mk (K := K) (Ps := [P_moved_place, P_moved_way, P_after, P_back_of]) (bm := bm) (ob := ob) (st := s_move) d20 d21 l_move h_move
  have b_move := F_move.binds (ps := ["_law_script", "_law_k"]) fun _ _ _ _ _ _ us hl => match us, hl with | [_, _], _ => rfl
  have F_moved_sizes := funC_mk (K := K) (Ps := [P_moved_place, P_moved_way, P_after, P_back_of]) (bm := bm) (ob := ob) (st := s_moved_sizes) d22 d23 l_moved_sizes h_moved_sizes
  have b_moved_sizes := F_moved_sizes.binds (ps := ["_law_sizes", "_law_move_here"]) fun _ _ _ _ _ _ us hl => match us, hl with | [_, _], _ => rfl
  have F_moves := funC_mk (K := K) (Ps := [P_moved_place, P_moved_way, P_after, P_back_of]) (bm := bm) (ob := ob) (st := s_moves) d24 d25 l_moves h_moves
  have b_moves := F_moves.binds (ps := []) fun _ _ _ _ _ _ us hl => match us, hl with | [], _ => rfl
  have F_law := funC_mk (K := K) (Ps := [P_moved_place, P_moved_way, P_after, P_back_of]) (bm := bm) (ob := ob) (st := s_law) d26 d27 l_law h_law
  have b_law := F_law.binds (ps := ["_law_script"]) fun _ _ _ _ _ _ us hl => match us, hl with | [_], _ => rfl
  let T : Tx (kx K [P_moved_place, P_moved_way, P_after, P_back_of] bm ob) mg [(P_moved_place, #[]), (P_moved_way, #[]), (P_after, #[]), (P_back_of, #[])] := ⟨bmK_mk X hb1 hb2 hb3 hb4 hb5 hb6, PySem.W.mg_none_of X G.g z_abs, PySem.W.mg_none_of X G.g z_all, PySem.W.mg_none_of X G.g z_bool, PySem.W.mg_none_of X G.g z_isinstance, PySem.W.mg_none_of X G.g z_len, PySem.W.mg_none_of X G.g z_list, PySem.W.mg_none_of X G.g z_max, PySem.W.mg_none_of X G.g z_min, PySem.W.mg_none_of X G.g z_range, PySem.W.mg_none_of X G.g z_tuple, PySem.W.mg_none_of X G.g z_zip, f_moved_place, _, _, F_moved_place, b_moved_place, PySem.W.mg_of X G.g a_moved_place, c_moved_place, P_moved_place, #[], codeK_mk d1 (by simp) o_moved_place rfl rfl p_moved_place q18_moved_place q7_moved_place q9_moved_place q10_moved_place, (by simp), f_moved_way, _, _, F_moved_way, b_moved_way, PySem.W.mg_of X G.g a_moved_way, c_moved_way, P_moved_way, #[], codeK_mk d3 (by simp) o_moved_way rfl rfl p_moved_way q18_moved_way q7_moved_way q9_moved_way q10_moved_way, (by simp), f_after, _, _, F_after, b_after, PySem.W.mg_of X G.g a_after, c_after, P_after, #[], codeK_mk d5 (by simp) o_after rfl rfl p_after q18_after q7_after q9_after q10_after, (by simp), f_back_of, _, _, F_back_of, b_back_of, PySem.W.mg_of X G.g a_back_of, c_back_of, P_back_of, #[], codeK_mk d7 (by simp) o_back_of rfl rfl p_back_of q18_back_of q7_back_of q9_back_of q10_back_of, (by simp), f_alike, _, _, F_alike, b_alike, PySem.W.mg_of X G.g a_alike, f_digits, _, _, F_digits, b_digits, PySem.W.mg_of X G.g a_digits, f_one, _, _, F_one, b_one, PySem.W.mg_of X G.g a_one, f_any_sizes, _, _, F_any_sizes, b_any_sizes, PySem.W.mg_of X G.g a_any_sizes, f_measure, _, _, F_measure, b_measure, PySem.W.mg_of X G.g a_measure, f_way, _, _, F_way, b_way, PySem.W.mg_of X G.g a_way, f_move, _, _, F_move, b_move, PySem.W.mg_of X G.g a_move, f_moved_sizes, _, _, F_moved_sizes, b_moved_sizes, PySem.W.mg_of X G.g a_moved_sizes, f_moves, _, _, F_moves, b_moves, PySem.W.mg_of X G.g a_moves, f_law, _, _, F_law, b_law, PySem.W.mg_of X G.g a_law⟩
  refine ⟨kx K [P_moved_place, P_moved_way, P_after, P_back_of] bm ob, [(P_moved_place, #[]), (P_moved_way, #[]), (P_after, #[]), (P_back_of, #[])], PySem.W.fnOf "law" "law" (defArgs s_law) (defBody s_law) (defScope s_law) .none kV_law dc_law pm_law an_law (.ref c_law) ct_law, fun b o hbo => ?_, dj.2, fun t ht => ?_, fun s v => .of_eq rfl, fun base _ _ => ?_⟩
  · rcases kx_of hbo with ⟨z1, z2⟩ | ⟨z1, z2⟩
    · exact ⟨z1, X _ _ z2⟩
    · subst z1 z2
      refine ⟨fun z => ?_, hb3⟩
      have z : b = P_moved_place ∨ b = P_moved_way ∨ b = P_after ∨ b = P_back_of := by simpa using z
      rcases z with z | z | z | z
      · rw [z, tk_moved_place.ob] at hb3; cases hb3; cases hb4
      · rw [z, tk_moved_way.ob] at hb3; cases hb3; cases hb4
      · rw [z, tk_after.ob] at hb3; cases hb3; cases hb4
      · rw [z, tk_back_of.ob] at hb3; cases hb3; cases hb4
  · have ht : t = (P_moved_place, #[]) ∨ t = (P_moved_way, #[]) ∨ t = (P_after, #[]) ∨ t = (P_back_of, #[]) := by simpa using ht
    rcases ht with rfl | rfl | rfl | rfl
    · exact tk_moved_place
    · exact tk_moved_way
    · exact tk_after
    · exact tk_back_of
  · exact ok_law (P := l.prog) (w := w) (base := base) T
end Law
open PySem PySem.W PyProof.Rows
set_option maxRecDepth 100000 in
set_option maxHeartbeats 0 in
theorem PySem.Challenge.cw_sightstone_k37_moves_put_together_holds : PySem.Challenge.rw_sightstone_k37_moves_put_together.Holds := by
  w_on; o_law; k_head; (case hw => w_witness2)
  k_fill
  refine L2.walk_ofT (l := PySem.Challenge.rw_sightstone_k37_moves_put_together) (n := 63) (k := 6) (x := "_law_script") (sp := L2.spLaw) rfl (by decide) rfl ⟨rfl, by decide, by decide⟩ (fun w h Y => PySem.W.kIn_of Y) ?F L2.spLaw_ok
  case F =>
    intro w mg fa h KX G hmg
    refine' Law.all_mk KX G hmg ?a_moved_place ?l_moved_place ?h_moved_place ?o_moved_place ?p_moved_place ?q18_moved_place ?q7_moved_place ?q9_moved_place ?q10_moved_place ?t_moved_place ?a_moved_way ?l_moved_way ?h_moved_way ?o_moved_way ?p_moved_way ?q18_moved_way ?q7_moved_way ?q9_moved_way ?q10_moved_way ?t_moved_way ?a_after ?l_after ?h_after ?o_after ?p_after ?q18_after ?q7_after ?q9_after ?q10_after ?t_after ?a_back_of ?l_back_of ?h_back_of ?o_back_of ?p_back_of ?q18_back_of ?q7_back_of ?q9_back_of ?q10_back_of ?t_back_of ?a_alike ?l_alike ?h_alike ?a_digits ?l_digits ?h_digits ?a_one ?l_one ?h_one ?a_any_sizes ?l_any_sizes ?h_any_sizes ?a_measure ?l_measure ?h_measure ?a_way ?l_way ?h_way ?a_move ?l_move ?h_move ?a_moved_sizes ?l_moved_sizes ?h_moved_sizes ?a_moves ?l_moves ?h_moves ?a_law ?l_law ?h_law ?z_abs ?z_all ?z_bool ?z_isinstance ?z_len ?z_list ?z_max ?z_min ?z_range ?z_tuple ?z_zip ?ne
    (case a_moved_place => k_is)
    (case l_moved_place => k_is)
    (case h_moved_place => k_is)
    (case o_moved_place => k_is)
    (case p_moved_place => rfl)
    (case q18_moved_place => rfl)
    (case q7_moved_place => rfl)
    (case q9_moved_place => rfl)
    (case q10_moved_place => rfl)
    (case t_moved_place => decide +kernel)
    (case a_moved_way => k_is)
    (case l_moved_way => k_is)
    (case h_moved_way => k_is)
    (case o_moved_way => k_is)
    (case p_moved_way => rfl)
    (case q18_moved_way => rfl)
    (case q7_moved_way => rfl)
    (case q9_moved_way => rfl)
    (case q10_moved_way => rfl)
    (case t_moved_way => decide +kernel)
    (case a_after => k_is)
    (case l_after => k_is)
    (case h_after => k_is)
    (case o_after => k_is)
    (case p_after => rfl)
    (case q18_after => rfl)
    (case q7_after => rfl)
    (case q9_after => rfl)
    (case q10_after => rfl)
    (case t_after => decide +kernel)
    (case a_back_of => k_is)
    (case l_back_of => k_is)
    (case h_back_of => k_is)
    (case o_back_of => k_is)
    (case p_back_of => rfl)
    (case q18_back_of => rfl)
    (case q7_back_of => rfl)
    (case q9_back_of => rfl)
    (case q10_back_of => rfl)
    (case t_back_of => decide +kernel)
    (case a_alike => k_is)
    (case l_alike => k_is)
    (case h_alike => k_is)
    (case a_digits => k_is)
    (case l_digits => k_is)
    (case h_digits => k_is)
    (case a_one => k_is)
    (case l_one => k_is)
    (case h_one => k_is)
    (case a_any_sizes => k_is)
    (case l_any_sizes => k_is)
    (case h_any_sizes => k_is)
    (case a_measure => k_is)
    (case l_measure => k_is)
    (case h_measure => k_is)
    (case a_way => k_is)
    (case l_way => k_is)
    (case h_way => k_is)
    (case a_move => k_is)
    (case l_move => k_is)
    (case h_move => k_is)
    (case a_moved_sizes => k_is)
    (case l_moved_sizes => k_is)
    (case h_moved_sizes => k_is)
    (case a_moves => k_is)
    (case l_moves => k_is)
    (case h_moves => k_is)
    (case a_law => k_is)
    (case l_law => k_is)
    (case h_law => k_is)
    (case z_abs => k_is)
    (case z_all => k_is)
    (case z_bool => k_is)
    (case z_isinstance => k_is)
    (case z_len => k_is)
    (case z_list => k_is)
    (case z_max => k_is)
    (case z_min => k_is)
    (case z_range => k_is)
    (case z_tuple => k_is)
    (case z_zip => k_is)
    (case ne => decide +kernel)
