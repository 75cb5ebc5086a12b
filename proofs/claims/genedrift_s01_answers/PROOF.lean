import PyProof.Rows.All
import Wide.All
import OpenK.AllK
import Wide.FinOn
import PyProof.EqAt
import PyProof.EqKinds
import PyProof.TupleCall
import KE.BitLaws
import Open.SpecLaws
import KE.OsHead
import KE.OsGo
import PyFlatLaws
import VbecajSpec
import PySem.Challenge.RW_genedrift_s01_answers
section
set_option Elab.async false
set_option linter.all false
set_option maxRecDepth 100000
namespace L2
open PySem PySem.Spec PyProof.Rows
abbrev Key := Sum Int Str
def keyIs : Key → Value → Bool
  | .inl k, v => Value.isInt k v
  | .inr x, v => Value.isStrOf x v
def keyH (w : World) : Key → Int
  | .inl k => hashInt k
  | .inr x => hashStr w x
theorem keyIs_shape : ∀ {k : Key} {v : Value}, keyIs k v = true → (∃ i t, k = Sum.inl i ∧ v = Value.int i t) ∨ (∃ x t, k = Sum.inr x ∧ v = Value.str x t)
  | .inl i, v, h => by
    obtain ⟨t, e⟩ := Value.isInt_shape (k := i) (v := v) h
    exact .inl ⟨i, t, rfl, e⟩
  | .inr x, v, h => by
    obtain ⟨t, e⟩ := Value.isStrOf_shape (x := x) (v := v) h
    exact .inr ⟨x, t, rfl, e⟩
theorem key_ll (a b : Int) : decide ((Sum.inl a : Key) = Sum.inl b) = (a == b) := by
  by_cases e : a = b
  · subst e; simp
  · have h : ¬ (Sum.inl a : Key) = Sum.inl b := fun q => e (Sum.inl.inj q)
    rw [decide_eq_false h]
    exact (beq_eq_false_iff_ne.mpr e).symm
theorem key_rr (a b : Str) : decide ((Sum.inr a : Key) = Sum.inr b) = decide (a = b) := by
  by_cases e : a = b
  · subst e; simp
  · have h : ¬ (Sum.inr a : Key) = Sum.inr b := fun q => e (Sum.inr.inj q)
    rw [decide_eq_false h, decide_eq_false e]
theorem key_lr (a : Int) (b : Str) : decide ((Sum.inl a : Key) = Sum.inr b) = false := decide_eq_false (fun q => nomatch q)
theorem key_rl (a : Str) (b : Int) : decide ((Sum.inr a : Key) = Sum.inl b) = false := decide_eq_false (fun q => nomatch q)
def mixKind (prog : Program) (w : World) : PySem.KeyKind prog w Key where
  is := keyIs
  hash := keyH w
  inj := fun v a b ha hb => by
    rcases keyIs_shape ha with ⟨i, t, rfl, rfl⟩ | ⟨x, t, rfl, rfl⟩
    · rcases keyIs_shape hb with ⟨j, u, rfl, e⟩ | ⟨y, u, rfl, e⟩
      · injection e with e1 _; rw [e1]
      · exact nomatch e
    · rcases keyIs_shape hb with ⟨j, u, rfl, e⟩ | ⟨y, u, rfl, e⟩
      · exact nomatch e
      · injection e with e1 _; rw [e1]
  byValue := fun k v h => by
    rcases keyIs_shape h with ⟨i, t, rfl, rfl⟩ | ⟨x, t, rfl, rfl⟩ <;> rfl
  pyHash := fun hv h => by
    rcases keyIs_shape hv with ⟨i, t, rfl, rfl⟩ | ⟨x, t, rfl, rfl⟩
    · exact wpAny_pyHash_int h
    · exact wpAny_pyHash_str h
  eqBool := fun hu hv h => by
    rcases keyIs_shape hu with ⟨i, t, rfl, rfl⟩ | ⟨x, t, rfl, rfl⟩
    · rcases keyIs_shape hv with ⟨j, u, rfl, rfl⟩ | ⟨y, u, rfl, rfl⟩
      · rw [key_ll] at h; exact wpAny_eqBool_int h
      · rw [key_lr] at h; exact SeqAt.EqAt.int_str i t y u _ _ _ _ h
    · rcases keyIs_shape hv with ⟨j, u, rfl, rfl⟩ | ⟨y, u, rfl, rfl⟩
      · rw [key_rl] at h; exact SeqAt.EqAt.str_int x t j u _ _ _ _ h
      · rw [key_rr] at h; exact wpAny_eqBool_str h
  «strs» := fun k x t v h => by
    rcases keyIs_shape h with ⟨i, u, rfl, e⟩ | ⟨y, u, rfl, e⟩
    · exact nomatch e
    · injection e with e1 _
      subst e1
      cases v <;> rfl
end L2
namespace L2
open PySem PySem.Spec PyProof.Rows
inductive V where
  | non | bl (b : Bool) | int (i : Int) | str (x : Str) | byt (b : Array UInt8) | flt (b : UInt64) | ref (a : Addr) | ty (n : String)
  deriving DecidableEq
def RelV : V → Value → Prop
  | .non, u => u = Value.none
  | .bl b, u => u = Value.bool b
  | .int i, u => ∃ t, u = Value.int i t
  | .str x, u => ∃ t, u = Value.str x t
  | .byt b, u => ∃ t, u = Value.bytes b t
  | .flt b, u => ∃ t, u = Value.float b t
  | .ref a, u => u = Value.ref a
  | .ty n, u => u = Value.type n
abbrev Vals : List V → List Value → Prop := Paired RelV
theorem Vals.length {xs : List V} {us : List Value} (r : Vals xs us) : xs.length = us.length := Paired.length r
theorem Vals.get : ∀ {xs : List V} {us : List Value} {i : Nat} {x : V}, Vals xs us → xs[i]? = some x → ∃ u, us[i]? = some u ∧ RelV x u
  | _, _, _, _, .nil, e => by simp at e
  | _, _, 0, _, .cons r _, e => by simp at e; subst e; exact ⟨_, rfl, r⟩
  | _, _, i + 1, x, .cons _ t, e => by
    obtain ⟨u, h1, h2⟩ := Vals.get (i := i) (x := x) t (by simpa using e)
    exact ⟨u, by simpa using h1, h2⟩
theorem Vals.set {x : V} {u : Value} (r : RelV x u) : ∀ {xs : List V} {us : List Value} (i : Nat), Vals xs us → Vals (xs.set i x) (us.set i u)
  | _, _, _, .nil => .nil
  | _, _, 0, .cons _ t => .cons r t
  | _, _, i + 1, .cons q t => .cons q (Vals.set r i t)
theorem Vals.append : ∀ {xs ys : List V} {us ws : List Value}, Vals xs us → Vals ys ws → Vals (xs ++ ys) (us ++ ws)
  | _, _, _, _, .nil, s => s
  | _, _, _, _, .cons r t, s => .cons r (Vals.append t s)
theorem Vals.take : ∀ {xs : List V} {us : List Value} (n : Nat), Vals xs us → Vals (xs.take n) (us.take n)
  | _, _, 0, _ => .nil
  | _, _, _ + 1, .nil => .nil
  | _, _, n + 1, .cons r t => .cons r (Vals.take n t)
theorem Vals.drop : ∀ {xs : List V} {us : List Value} (n : Nat), Vals xs us → Vals (xs.drop n) (us.drop n)
  | _, _, 0, r => r
  | _, _, _ + 1, .nil => .nil
  | _, _, n + 1, .cons _ t => Vals.drop n t
def RelO : Option V → Option Value → Prop
  | some v, some u => RelV v u
  | none, none => True
  | _, _ => False
def KV {κ : Type} : List (κ × V) → List (κ × Value) → Prop := Paired fun (p : κ × V) (q : κ × Value) => p.1 = q.1 ∧ RelV p.2 q.2
def kV : Key → V
  | .inl i => .int i
  | .inr x => .str x
inductive HO where
  | lst (xs : List V)
  | tup (xs : List V)
  | dK (kvs : List (Key × V)) | dT (kvs : List (List Key × V))
  | set (S : Int → Bool) (n : Nat)
  | ins (C dx : Addr) (fs : List (Str × V))
  | own (x : Addr)
  | xd (fs : List (Str × V))
  | met (f x : Addr)
  | rng (lo hi : Int)
  | frz (o : Obj) (u : HO)
  | tbl (ps : Array Value)
  | ext (φ : Heap → Prop)
abbrev Hp := Addr → Option HO
def upd (H : Hp) (a : Addr) (o : HO) : Hp := fun b => if b = a then some o else H b
theorem upd_same {H : Hp} {a : Addr} {o : HO} : upd H a o a = some o := by unfold upd; rw [if_pos rfl]
theorem upd_ne {H : Hp} {a b : Addr} {o : HO} (h : b ≠ a) : upd H a o b = H b := by unfold upd; rw [if_neg h]
theorem upd_upd {H : Hp} {a : Addr} {o u : HO} : upd (upd H a o) a u = upd H a u := by
  funext b; unfold upd; split <;> rfl
theorem ne_of {H : Hp} {a b : Addr} {o u : HO} (h : H a = some o) (h' : H b = some u) (d : o ≠ u) : a ≠ b := by
  intro e; subst e; rw [h] at h'; exact d (Option.some.inj h')
theorem ne_of_none {H : Hp} {a b : Addr} {o : HO} (h : H a = some o) (h' : H b = none) : a ≠ b := by
  intro e; subst e; rw [h] at h'; cases h'
section
variable (P : Program) (w : World)
def ObjOk (H : Hp) (h : Heap) (a : Addr) : HO → Prop
  | .lst xs => xs.length ≤ sizeLine ∧ ∃ (its : List Value) (n : Nat), Vals xs its ∧ h.get? a = some { cls := .type "list", data := .seq its.toArray n }
  | .tup xs => xs.length ≤ sizeLine ∧ ∃ its : List Value, Vals xs its ∧ IsTup h a its.toArray
  | .dK kvs => kvs.length ≤ sizeLine ∧ (a == sysModules) = false ∧ ∃ vs, KV kvs vs ∧ h.DictOf (mixKind P w) a vs
  | .dT kvs => kvs.length ≤ sizeLine ∧ (a == sysModules) = false ∧ ∃ xs : List (List Key × Addr × Value),
      Paired (fun (p : List Key × V) (q : List Key × Addr × Value) => p.1 = q.1 ∧ H q.2.1 = some (.tup (p.1.map kV)) ∧ RelV p.2 q.2.2) kvs xs ∧
      ∃ o es ep, h.get? a = some o ∧ o.ExactDict ∧ o.data = .dict es ep ∧ es.toList = xs.map (entryOfKey (tupleKind (mixKind P w))) ∧ (xs.map (·.1)).Nodup
  | .set S n => h.SetOf (intKind P w) a S n
  | .ins C dx fs => H dx = some (.own a) ∧ fs.length ≤ 1000 ∧ dx ≠ a ∧ h.get? a = some (PySem.W.instObj C dx) ∧
      ∃ mA, h.Ns1 dx mA ∧ (∀ f, RelO (fs.lookup f) (mA f)) ∧ PySem.Within mA (fs.map (·.1))
  | .own _ => ∃ o, h.get? a = some o
  | .xd fs => ∃ mA, h.Ns1 a mA ∧ ∀ f, RelO (fs.lookup f) (mA f)
  | .rng lo hi => ∃ t u v, h.get? a = some { cls := .type "range", data := .fields #[.int lo t, .int hi u, .int 1 v] }
  | .frz o u => h.get? a = some o ∧ ObjOk H h a u
  | .tbl ps => h.get? a = some { cls := .none, data := .fields ps }
  | .met f x => h.get? a = some (PySem.W.methodObj (.ref f) (.ref x))
  | .ext φ => φ h ∧ (∃ o, h.get? a = some o) ∧ ∀ h1 h2 : Heap, φ h1 → (∀ o, h1.get? a = some o → h2.get? a = some o) → φ h2
def HOk (H : Hp) (h : Heap) : Prop := ∀ a o, H a = some o → ObjOk P w H h a o
end
section
variable {P : Program} {w : World} {H H' : Hp} {h h' : Heap} {a : Addr} {o : HO}
theorem ObjOk.lt (x : ObjOk P w H h a o) : a < h.objs.size := by
  cases o with
  | lst xs => obtain ⟨_, _, _, _, e⟩ := x; exact Heap.lt_size e
  | tup xs => obtain ⟨_, _, _, p⟩ := x; exact p.lt
  | dK kvs => obtain ⟨_, _, _, _, o, _, _, e, _⟩ := x; exact Heap.lt_size e
  | dT kvs => obtain ⟨_, _, _, _, o, _, _, e, _⟩ := x; exact Heap.lt_size e
  | set S n => obtain ⟨o, _, _, _, e, _⟩ := x; exact Heap.lt_size e
  | ins C dx fs => obtain ⟨_, _, _, e, _⟩ := x; exact Heap.lt_size e
  | own y => obtain ⟨_, e⟩ := x; exact Heap.lt_size e
  | xd fs => obtain ⟨_, ⟨_, _, _, e, _⟩, _⟩ := x; exact Heap.lt_size e
  | rng lo hi => obtain ⟨_, _, _, e⟩ := x; exact Heap.lt_size e
  | frz ob u => obtain ⟨e, _⟩ := x; exact Heap.lt_size e
  | tbl ps => exact Heap.lt_size (show h.get? a = some _ from x)
  | met f y => exact Heap.lt_size (show h.get? a = some _ from x)
  | ext φ => obtain ⟨_, ⟨_, e⟩, _⟩ := x; exact Heap.lt_size e
theorem Paired.mapP {α β : Type} {F G : α → β → Prop} : ∀ {l₁ : List α} {l₂ : List β}, Paired F l₁ l₂ → (∀ a b, F a b → G a b) → Paired G l₁ l₂
  | _, _, .nil, _ => .nil
  | _, _, .cons r t, f => .cons (f _ _ r) (Paired.mapP t f)
theorem ObjOk.stay (x : ObjOk P w H h a o) (k : ∀ b u, (b = a ∨ H b = some (.own a)) → h.get? b = some u → h'.get? b = some u)
    (ho : ∀ b, H b = some (.own a) → H' b = some (.own a)) (ht : ∀ b xs, H b = some (.tup xs) → H' b = some (.tup xs)) : ObjOk P w H' h' a o := by
  induction o with
  | lst xs => obtain ⟨z, its, n, r, e⟩ := x; exact ⟨z, its, n, r, k _ _ (.inl rfl) e⟩
  | tup xs => obtain ⟨z, its, r, ob, e, c⟩ := x; exact ⟨z, its, r, ob, k _ _ (.inl rfl) e, c⟩
  | dK kvs => obtain ⟨z, y, vs, r, ob, es, ep, e, c⟩ := x; exact ⟨z, y, vs, r, ob, es, ep, k _ _ (.inl rfl) e, c⟩
  | dT kvs =>
    obtain ⟨z, y, xs, r, ob, es, ep, e, c⟩ := x
    exact ⟨z, y, xs, Paired.mapP r fun p q z => ⟨z.1, ht _ _ z.2.1, z.2.2⟩, ob, es, ep, k _ _ (.inl rfl) e, c⟩
  | set S n => obtain ⟨ob, es, ep, t, e, c⟩ := x; exact ⟨ob, es, ep, t, k _ _ (.inl rfl) e, c⟩
  | ins C dx fs =>
    obtain ⟨d, z, ne, e, mA, ⟨od, es, ep, e2, c⟩, r⟩ := x
    exact ⟨ho _ d, z, ne, k _ _ (.inl rfl) e, mA, ⟨od, es, ep, k _ _ (.inr d) e2, c⟩, r⟩
  | own y => obtain ⟨ob, e⟩ := x; exact ⟨ob, k _ _ (.inl rfl) e⟩
  | xd fs => obtain ⟨mA, ⟨od, es, ep, e, c⟩, r⟩ := x; exact ⟨mA, ⟨od, es, ep, k _ _ (.inl rfl) e, c⟩, r⟩
  | rng lo hi => obtain ⟨t, u, v, e⟩ := x; exact ⟨t, u, v, k _ _ (.inl rfl) e⟩
  | frz ob u ih => obtain ⟨e, q⟩ := x; exact ⟨k _ _ (.inl rfl) e, ih q⟩
  | tbl ps =>
    have e : h.get? a = some { cls := .none, data := .fields ps } := x
    show h'.get? a = some { cls := .none, data := .fields ps }
    exact k a _ (.inl rfl) e
  | met f y =>
    have e : h.get? a = some (PySem.W.methodObj (.ref f) (.ref y)) := x
    show h'.get? a = some (PySem.W.methodObj (.ref f) (.ref y))
    exact k a _ (.inl rfl) e
  | ext φ => obtain ⟨p, ⟨o, e⟩, st⟩ := x; exact ⟨st _ _ p fun o q => k _ _ (.inl rfl) q, ⟨o, k _ _ (.inl rfl) e⟩, st⟩
theorem HOk.lt (x : HOk P w H h) (e : H a = some o) : a < h.objs.size := (x a o e).lt
theorem HOk.fresh (x : HOk P w H h) (e : h.objs.size ≤ a) : H a = none := by
  cases q : H a with
  | none => rfl
  | some u => exact absurd (Nat.lt_of_lt_of_le (x.lt q) e) (Nat.lt_irrefl _)
theorem HOk.kept (x : HOk P w H h) (k : ∀ b u, h.get? b = some u → h'.get? b = some u) : HOk P w H h' := fun a o e =>
  (x a o e).stay (fun b u _ q => k b u q) (fun _ q => q) fun _ _ q => q
theorem HOk.laid (x : HOk P w H h) (k : ∀ b u, h.get? b = some u → h'.get? b = some u) (hp : h.objs.size ≤ a) (new : ObjOk P w (upd H a o) h' a o) : HOk P w (upd H a o) h' := fun b u e => by
  have hn := x.fresh hp
  by_cases hb : b = a
  · subst hb; rw [upd_same] at e; cases e; exact new
  · rw [upd_ne hb] at e
    exact (x b u e).stay (fun c v _ q => k c v q) (fun c q => by rw [upd_ne (ne_of_none q hn)]; exact q) fun c xs q => by rw [upd_ne (ne_of_none q hn)]; exact q
end
def Rd (H : Hp) (a : Addr) (u : HO) : Prop := H a = some u ∨ ∃ o, H a = some (.frz o u)
theorem Rd.ok {P : Program} {w : World} {H : Hp} {h : Heap} {a : Addr} {u : HO} (r : Rd H a u) (x : HOk P w H h) : ObjOk P w H h a u := by
  rcases r with r | ⟨o, r⟩
  · exact x a u r
  · obtain ⟨_, q⟩ := x a _ r
    exact q
def Mut : Option HO → Prop
  | some (.lst _) => True
  | some (.dK _) => True
  | some (.dT _) => True
  | some (.set _ _) => True
  | some (.ins _ _ _) => True
  | some (.ext _) => True
  | _ => False
section
variable {P : Program} {w : World} {H : Hp} {h h' : Heap} {x e : Addr} {o' : HO}
theorem HOk.write (ok : HOk P w H h) (mu : Mut (H x)) (he : e = x ∨ H e = some (.own x)) (k : ∀ b u, b ≠ e → h.get? b = some u → h'.get? b = some u) (heo : ∃ u, h'.get? e = some u)
    (new : ObjOk P w (upd H x o') h' x o') : HOk P w (upd H x o') h' := fun b u q => by
  have nown : ∀ c y, H c = some (.own y) → c ≠ x := fun c y r z => by subst z; rw [r] at mu; exact mu
  have ntup : ∀ c xs, H c = some (.tup xs) → c ≠ x := fun c xs r z => by subst z; rw [r] at mu; exact mu
  by_cases hb : b = x
  · subst hb; rw [upd_same] at q; cases q; exact new
  · rw [upd_ne hb] at q
    by_cases hbe : b = e
    · have q' : H b = some (.own x) := by
        rcases he with z | z
        · exact absurd (hbe.trans z) hb
        · rw [hbe]; exact z
      rw [q] at q'; cases q'
      obtain ⟨v, hv⟩ := heo
      exact ⟨v, by rw [hbe]; exact hv⟩
    · refine (ok b u q).stay (fun c v hc r => k c v ?_ r) (fun c r => by rw [upd_ne (nown c b r)]; exact r) fun c xs r => by rw [upd_ne (ntup c xs r)]; exact r
      rcases hc with rfl | hc
      · exact hbe
      · rintro rfl
        rcases he with z | z
        · exact nown c b hc z
        · rw [hc] at z; cases z; exact hb rfl
end
structure Un (fs ex : List Addr) (H H' : Hp) (h h' : Heap) : Prop where
  keep : ∀ b o, h.get? b = some o → H b = none → b ∉ fs → b ∉ ex → h'.get? b = some o
  slot : ∀ b o, h.get? b = some o → H b = none → b ∈ fs → b ∉ ex → ∃ sl, h'.get? b = some { o with slots := sl }
  free : ∀ b o, h.get? b = some o → H b = none → b ∉ ex → H' b = none
  there : ∀ b o, h.get? b = some o → b ∉ ex → ∃ o', h'.get? b = some o'
  tups : ∀ b xs, H b = some (.tup xs) → H' b = some (.tup xs)
  frzs : ∀ b o u, H b = some (.frz o u) → H' b = some (.frz o u)
  tbls : ∀ b ps, H b = some (.tbl ps) → ∃ more, H' b = some (.tbl (ps ++ more))
section
variable {fs fs' ex ex' : List Addr} {H H1 H2 : Hp} {h h1 h2 h' : Heap} {a x e : Addr} {o : HO}
theorem Un.any (u : Un fs ex H H1 h h1) {b : Addr} {ob : Obj} (q : h.get? b = some ob) (n : H b = none) (hx : b ∉ ex) : ∃ sl, h1.get? b = some { ob with slots := sl } := by
  by_cases hb : b ∈ fs
  · exact u.slot b ob q n hb hx
  · exact ⟨ob.slots, u.keep b ob q n hb hx⟩
theorem Un.kept (k : ∀ b u, h.get? b = some u → h'.get? b = some u) : Un fs ex H H h h' :=
  ⟨fun b ob q _ _ _ => k b ob q, fun b ob q _ _ _ => ⟨ob.slots, k b ob q⟩, fun _ _ _ n _ => n, fun b ob q _ => ⟨ob, k b ob q⟩, fun _ _ q => q, fun _ _ _ q => q, fun _ ps q => ⟨#[], by rw [q]; simp⟩⟩
theorem Un.refl : Un fs ex H H h h := Un.kept fun _ _ q => q
theorem Un.laid (k : ∀ b u, h.get? b = some u → h'.get? b = some u) (hp : h.objs.size ≤ a) (hn : H a = none) : Un fs ex H (upd H a o) h h' where
  keep := fun b u q _ _ _ => k b u q
  slot := fun b u q _ _ _ => ⟨u.slots, k b u q⟩
  free := fun b u q n _ => by rw [upd_ne (Nat.ne_of_lt (Nat.lt_of_lt_of_le (Heap.lt_size q) hp))]; exact n
  there := fun b u q _ => ⟨u, k b u q⟩
  tups := fun b xs q => by rw [upd_ne (ne_of_none q hn)]; exact q
  frzs := fun b u xs q => by rw [upd_ne (ne_of_none q hn)]; exact q
  tbls := fun b ps q => ⟨#[], by rw [upd_ne (ne_of_none q hn), q]; simp⟩
theorem Un.write (mu : Mut (H x)) (he : e = x ∨ H e = some (.own x)) (k : ∀ b u, b ≠ e → h.get? b = some u → h'.get? b = some u) (heo : ∃ u, h'.get? e = some u) : Un fs ex H (upd H x o) h h' := by
  have hx : ∀ b, H b = none → b ≠ x := fun b n z => by subst z; rw [n] at mu; exact mu
  have hb : ∀ b, H b = none → b ≠ e := fun b n z => by
    subst z
    rcases he with r | r
    · exact hx b n r
    · rw [n] at r; cases r
  have hm : ∀ b u, H b = some u → ¬ Mut (some u) → b ≠ x := fun b u q nm z => by subst z; rw [q] at mu; exact nm mu
  refine ⟨fun b u q n _ _ => k b u (hb b n) q, fun b u q n _ _ => ⟨u.slots, k b u (hb b n) q⟩, fun b u q n _ => by rw [upd_ne (hx b n)]; exact n, fun b u q _ => ?_,
    fun b xs q => by rw [upd_ne (hm b _ q fun z => z)]; exact q, fun b u xs q => by rw [upd_ne (hm b _ q fun z => z)]; exact q, fun b ps q => ⟨#[], by rw [upd_ne (hm b _ q fun z => z), q]; simp⟩⟩
  by_cases hbe : b = e
  · subst hbe; exact heo
  · exact ⟨u, k b u hbe q⟩
end
def trk (h : Heap) (H : Hp) : List Addr := (List.range h.objs.size).filter fun a => (H a).isSome
def hidT (h : Heap) (H : Hp) : Heap := PySem.W.hideAll h (trk h H)
theorem hidT_size (h : Heap) (H : Hp) : (hidT h H).objs.size = h.objs.size := PySem.W.hideAll_size _ _
theorem hidT_get {h : Heap} {H : Hp} {b : Addr} {o : Obj} (e : h.get? b = some o) (n : H b = none) : (hidT h H).get? b = some o :=
  PySem.W.hideAll_get _ e fun hm => by
    have q : (H b).isSome = true := (List.mem_filter.mp hm).2
    rw [n] at q; simp at q
theorem of_hidT {h : Heap} {H : Hp} {b : Addr} {o : Obj} (e : (hidT h H).get? b = some o) : h.get? b = some o ∧ H b = none := by
  have e' : h.get? b = some o := PySem.W.of_hideAll (trk h H) e
  refine ⟨e', ?_⟩
  cases q : H b with
  | none => rfl
  | some x =>
    have hm : b ∈ trk h H := List.mem_filter.mpr ⟨List.mem_range.mpr (Heap.lt_size e'), by simp [q]⟩
    have z : (hidT h H).get? b = none := PySem.W.hideAll_none (trk h H) hm
    rw [z] at e; cases e
end L2
namespace L2
open PySem PySem.Spec PyProof.Rows
structure Mod (K : PySem.W.Frag) (mg : Str → Option Value) (base : Heap) : Prop where
  kin : K.In base
  glob : base.Ns mainGlobals mg
  blt : ∃ mb, base.Ns builtinsNs mb ∧ ∀ x : Str, x ≠ "__name__" → mb x = bootBuiltins x
  nolimit : base.NoLimit
structure Cx where
  prog : Program
  w : World
  K : PySem.W.Frag
  mg : Str → Option Value
  base : Heap
  A : Around
  N : List Str
  s_0 : Shared
  H_0 : Hp
  env : Env
  outer : List Env
  stack : List Env
  ex : List Addr
  fn : Str → Bool
  calm : Bool
  pn : List (Addr × Obj)
  xe : Value → Shared → Prop
def frs (l : List Env) : List Addr := l.filterMap (·.frame)
abbrev Cx.fs (X : Cx) : List Addr := frs X.outer
def Vis (sc : Scope) (x : Str) : Prop := sc.names.lookup x = some .local ∨ sc.names.lookup x = some .cell ∨ sc.names.lookup x = some .free
def Loc (sc : Scope) (x : Str) : Prop := sc.names.lookup x = some .local ∨ sc.names.lookup x = some .cell
def Look (env : Env) (h : Heap) (m : Str → Option Value) (x : Str) (u : Value) : Prop :=
  (env.kindOf x = some .local ∧ m x = some u) ∨ ((env.kindOf x = some .cell ∨ env.kindOf x = some .free) ∧ ∃ c, env.cells.lookup x = some c ∧ h.IsCell c (some u))
structure Cx.Ok (X : Cx) : Prop where
  mod : Mod X.K X.mg X.base
  kind : X.env.scope.kind = .function
  glob : X.env.globals = mainGlobals
  blt : X.env.builtins = builtinsNs
  above : X.s_0.heap.objs.size ≤ X.env.locals
  inj : ∀ x y c, X.env.cells.lookup x = some c → X.env.cells.lookup y = some c → x = y
  has : ∀ x, (X.env.kindOf x = some .cell ∨ X.env.kindOf x = some .free) → ∃ c, X.env.cells.lookup x = some c
  cab : ∀ x c, X.fn x = true → X.env.cells.lookup x = some c → X.s_0.heap.objs.size ≤ c
  hd : X.calm = true → X.A.handled = none
  frames : X.A.frames = some X.stack
  stk : X.stack = X.outer ∨ (X.stack = X.env :: X.outer ∧ X.env.frame = some X.env.locals)
  exf : ∀ b ∈ X.ex, b ≠ X.env.locals ∧ ∀ x c, X.env.cells.lookup x = some c → c ≠ b
  bs : ∀ b o, X.base.get? b = some o → X.s_0.heap.get? b = some o ∧ X.H_0 b = none
  bsz : X.base.objs.size ≤ X.s_0.heap.objs.size
  noex : ∀ b o, X.base.get? b = some o → b ∉ X.ex
  exfs : ∀ b ∈ X.ex, b ∉ X.fs
  funs : X.s_0.heap.FunFrames X.base X.outer
  frf : ∀ b ∈ X.fs, X.H_0 b = none
structure Inv (X : Cx) (pins : List (Addr × Obj)) (σ : List (Option V)) (H : Hp) (s : Shared) : Prop where
  ok : X.Ok
  os : s.os = X.s_0.os
  bare : AllBare s.gens
  base : Un X.fs X.ex X.H_0 H X.s_0.heap s.heap
  loc : ∃ m, s.heap.Ns X.env.locals m ∧ ∀ (i : Nat) (x : Str) (v : V), X.N[i]? = some x → σ[i]? = some (some v) → Vis X.env.scope x → ∃ u, RelV v u ∧ Look X.env s.heap m x u
  cell : ∀ x c, X.env.cells.lookup x = some c → ∃ v, s.heap.IsCell c v
  free : H X.env.locals = none
  freeC : ∀ x c, X.env.cells.lookup x = some c → H c = none
  pin : ∀ p ∈ X.pn ++ pins, s.heap.get? p.1 = some p.2 ∧ H p.1 = none ∧ p.1 ≠ X.env.locals ∧ p.1 ∉ X.fs ∧ ∀ v, p.2.data ≠ .cell v
  hok : HOk X.prog X.w H s.heap
  len : σ.length = X.N.length
section
variable {X : Cx} {pins : List (Addr × Obj)} {σ : List (Option V)} {H H' : Hp} {s : Shared} {h' : Heap}
theorem Cx.Ok.nofr (ok : X.Ok) {b : Addr} {o : Obj} (e : X.base.get? b = some o) : b ∉ X.fs := fun hb => by
  have := (ok.funs.mem hb).1
  rw [e] at this; cases this
theorem Inv.bs (I : Inv X pins σ H s) : ∀ b o, X.base.get? b = some o → s.heap.get? b = some o ∧ H b = none := fun b o e =>
  ⟨I.base.keep b o (I.ok.bs b o e).1 (I.ok.bs b o e).2 (I.ok.nofr e) (I.ok.noex b o e), I.base.free b o (I.ok.bs b o e).1 (I.ok.bs b o e).2 (I.ok.noex b o e)⟩
theorem Inv.bk (I : Inv X pins σ H s) : ∀ b o, X.base.get? b = some o → s.heap.get? b = some o := fun b o e => (I.bs b o e).1
theorem Inv.mod (I : Inv X pins σ H s) : Mod X.K X.mg X.base := I.ok.mod
theorem Inv.kIn (I : Inv X pins σ H s) : X.K.In s.heap := I.ok.mod.kin.keeps I.bk
theorem Inv.lt (I : Inv X pins σ H s) : X.env.locals < s.heap.objs.size := let ⟨_, hn, _⟩ := I.loc; hn.lt
theorem Inv.sz (I : Inv X pins σ H s) : X.s_0.heap.objs.size ≤ s.heap.objs.size := Nat.le_trans I.ok.above (Nat.le_of_lt I.lt)
theorem Inv.nofs (I : Inv X pins σ H s) {a : Addr} (h : s.heap.objs.size ≤ a) : a ∉ X.fs := fun hb => by
  obtain ⟨_, o, ho, _⟩ := I.ok.funs.mem hb
  exact absurd (Nat.lt_of_lt_of_le (Heap.lt_size ho) (Nat.le_trans I.sz h)) (Nat.lt_irrefl _)
theorem Inv.cne (I : Inv X pins σ H s) : ∀ x c, X.env.cells.lookup x = some c → c ≠ X.env.locals := fun x c e z => by
  obtain ⟨v, o, ho, hd⟩ := I.cell x c e
  obtain ⟨m, ⟨o', es, ep, ho', hd', _⟩, _⟩ := I.loc
  rw [z, ho'] at ho; cases ho; rw [hd'] at hd; cases hd
theorem Inv.funs (I : Inv X pins σ H s) : s.heap.FunFrames X.base X.outer := by
  have all : ∀ (l : List Env), (∀ b ∈ frs l, b ∈ X.fs) → X.s_0.heap.FunFrames X.base l → s.heap.FunFrames X.base l := by
    intro l
    induction l with
    | nil => intro _ _; trivial
    | cons env r ih =>
      intro hs hl
      obtain ⟨hk, ⟨L, o, hf, hn, ho, hd⟩, hr⟩ := hl
      have hL : L ∈ X.fs := hs L (by unfold frs; rw [List.filterMap_cons, hf]; exact List.mem_cons_self)
      obtain ⟨sl, e⟩ := I.base.slot L o ho (I.ok.frf L hL) hL fun z => I.ok.exfs L z hL
      exact ⟨hk, ⟨L, _, hf, hn, e, hd⟩, ih (fun b hb => hs b (by unfold frs; rw [List.filterMap_cons, hf]; exact List.mem_cons_of_mem _ hb)) hr⟩
  exact all X.outer (fun _ hb => hb) I.ok.funs
theorem Inv.stack (I : Inv X pins σ H s) : s.heap.FunFrames X.base X.stack := by
  rcases I.ok.stk with e | ⟨e, hf⟩
  · rw [e]; exact I.funs
  · rw [e]
    obtain ⟨m, hn, _⟩ := I.loc
    refine .cons (by rw [I.ok.kind]; decide) hf hn ?_ I.funs
    exact Heap.get?_none_of_le (Nat.le_trans I.ok.bsz I.ok.above)
theorem Inv.stkSub (I : Inv X pins σ H s) : ∀ b ∈ frs X.stack, b ∈ X.env.locals :: X.fs := fun b hb => by
  rcases I.ok.stk with e | ⟨e, hf⟩
  · rw [e] at hb; exact List.mem_cons_of_mem _ hb
  · rw [e] at hb
    unfold frs at hb
    rw [List.filterMap_cons, hf] at hb
    exact hb
theorem Inv.stkFree (I : Inv X pins σ H s) : ∀ b ∈ frs X.stack, H b = none := fun b hb => by
  rcases List.mem_cons.mp (I.stkSub b hb) with e | hb
  · rw [e]; exact I.free
  · obtain ⟨_, o, ho, _⟩ := I.ok.funs.mem hb
    exact I.base.free b o ho (I.ok.frf b hb) fun z => I.ok.exfs b z hb
theorem Inv.step {g' : Array GenState} {t' : Nat} {d' : Drawn} {ch : List Addr} (I : Inv X pins σ H s)
    (hch : ∀ b ∈ ch, (b ∈ X.ex ∨ X.s_0.heap.objs.size ≤ b) ∧ b ≠ X.env.locals ∧ (∀ x c, X.env.cells.lookup x = some c → c ≠ b) ∧ ∀ p ∈ X.pn ++ pins, p.1 ≠ b)
    (keep : ∀ b o, b ≠ X.env.locals → b ∉ X.fs → b ∉ ch → s.heap.get? b = some o → H b = none → h'.get? b = some o)
    (slot : ∀ b o, b ≠ X.env.locals → b ∈ X.fs → b ∉ ch → s.heap.get? b = some o → H b = none → ∃ sl, h'.get? b = some { o with slots := sl }) (free : ∀ b o, b ∉ ch → s.heap.get? b = some o → H b = none → H' b = none)
    (there : ∀ b o, b ∉ ch → s.heap.get? b = some o → ∃ o', h'.get? b = some o')
    (tups : ∀ b xs, H b = some (.tup xs) → H' b = some (.tup xs)) (frzs : ∀ b o u, H b = some (.frz o u) → H' b = some (.frz o u)) (tbls : ∀ b ps, H b = some (.tbl ps) → ∃ more, H' b = some (.tbl (ps ++ more)))
    (ns : ∀ m, s.heap.Ns X.env.locals m → h'.Ns X.env.locals m) (hok : HOk X.prog X.w H' h') (hg : AllBare g') :
    Inv X pins σ H' { s with heap := h', gens := g', drawn := d', toks := t' } := by
  have neL : ∀ b o, X.s_0.heap.get? b = some o → b ≠ X.env.locals := fun b o e => Nat.ne_of_lt (Nat.lt_of_lt_of_le (Heap.lt_size e) I.ok.above)
  have neC : ∀ b o, X.s_0.heap.get? b = some o → b ∉ X.ex → b ∉ ch := fun b o e hx hb => by
    rcases (hch b hb).1 with z | z
    · exact hx z
    · exact absurd (Nat.lt_of_lt_of_le (Heap.lt_size e) z) (Nat.lt_irrefl _)
  have cellK : ∀ x c, X.env.cells.lookup x = some c → ∀ v, s.heap.IsCell c v → h'.IsCell c v := fun x c e v ⟨o, ho, hd⟩ => by
    have nch : c ∉ ch := fun z => (hch c z).2.2.1 x c e rfl
    by_cases hc : c ∈ X.fs
    · obtain ⟨sl, q⟩ := slot c o (I.cne x c e) hc nch ho (I.freeC x c e)
      exact ⟨_, q, hd⟩
    · exact ⟨o, keep c o (I.cne x c e) hc nch ho (I.freeC x c e), hd⟩
  refine ⟨I.ok, I.os, hg, ⟨fun b o e n hb hx => ?_, fun b o e n hb hx => ?_, fun b o e n hx => ?_, fun b o e hx => ?_, fun b xs e => tups b xs (I.base.tups b xs e), fun b o xs e => frzs b o xs (I.base.frzs b o xs e), fun b ps e => ?_⟩, ?_, fun x c e => ?_, ?_, fun x c e => ?_, fun p hp => ?_, hok, I.len⟩
  · exact keep b o (neL b o e) hb (neC b o e hx) (I.base.keep b o e n hb hx) (I.base.free b o e n hx)
  · obtain ⟨sl, e1⟩ := I.base.slot b o e n hb hx
    obtain ⟨sl', e2⟩ := slot b _ (neL b o e) hb (neC b o e hx) e1 (I.base.free b o e n hx)
    exact ⟨sl', e2⟩
  · obtain ⟨o', e1⟩ := I.base.there b o e hx
    exact free b o' (neC b o e hx) e1 (I.base.free b o e n hx)
  · obtain ⟨o', e1⟩ := I.base.there b o e hx
    exact there b o' (neC b o e hx) e1
  · obtain ⟨m1, e1⟩ := I.base.tbls b ps e
    obtain ⟨m2, e2⟩ := tbls b _ e1
    exact ⟨m1 ++ m2, by rw [e2, Array.append_assoc]⟩
  · obtain ⟨m, hn, hl⟩ := I.loc
    refine ⟨m, ns m hn, fun i x v e1 e2 e3 => ?_⟩
    obtain ⟨u, r, l⟩ := hl i x v e1 e2 e3
    refine ⟨u, r, ?_⟩
    rcases l with l | ⟨k, c, e, z⟩
    · exact .inl l
    · exact .inr ⟨k, c, e, cellK x c e _ z⟩
  · obtain ⟨v, z⟩ := I.cell x c e
    exact ⟨v, cellK x c e v z⟩
  · obtain ⟨m, ⟨o, _, _, ho, _⟩, _⟩ := I.loc
    exact free _ o (fun z => (hch _ z).2.1 rfl) ho I.free
  · obtain ⟨v, o, ho, hd⟩ := I.cell x c e
    exact free c o (fun z => (hch c z).2.2.1 x c e rfl) ho (I.freeC x c e)
  · obtain ⟨e, n, ne, nf, d⟩ := I.pin p hp
    have nch : p.1 ∉ ch := fun z => (hch p.1 z).2.2.2 p hp rfl
    exact ⟨keep p.1 p.2 ne nf nch e n, free p.1 p.2 nch e n, ne, nf, d⟩
theorem Inv.un {t' : Nat} (I : Inv X pins σ H s) (u : Un X.fs [] H H' s.heap h') (hok : HOk X.prog X.w H' h') : Inv X pins σ H' { s with heap := h', toks := t' } := by
  obtain ⟨m, ⟨o, es, ep, ho, r⟩, _⟩ := id I.loc
  obtain ⟨sl, hL⟩ := u.any ho I.free (by simp)
  exact I.step (g' := s.gens) (d' := s.drawn) (ch := []) (fun _ z => nomatch z) (fun b o _ hb _ e n => u.keep b o e n hb (by simp)) (fun b o _ hb _ e n => u.slot b o e n hb (by simp)) (fun b o _ e n => u.free b o e n (by simp)) (fun b o _ e => u.there b o e (by simp)) u.tups u.frzs u.tbls (fun m' hm => by
    obtain ⟨o', es', ep', ho', r'⟩ := hm
    rw [ho] at ho'; cases ho'
    exact ⟨_, es', ep', hL, r'⟩) hok I.bare
theorem Inv.call {g' : Array GenState} {t' : Nat} {d' : Drawn} {ch : List Addr} (I : Inv X pins σ H s) (u : Un (frs X.stack) ch H H' s.heap h') (hok : HOk X.prog X.w H' h') (hg : AllBare g')
    (hch : ∀ b ∈ ch, (b ∈ X.ex ∨ X.s_0.heap.objs.size ≤ b) ∧ b ≠ X.env.locals ∧ (∀ x c, X.env.cells.lookup x = some c → c ≠ b) ∧ ∀ p ∈ X.pn ++ pins, p.1 ≠ b) :
    Inv X pins σ H' { s with heap := h', gens := g', drawn := d', toks := t' } := by
  obtain ⟨m, ⟨o, es, ep, ho, r⟩, _⟩ := id I.loc
  obtain ⟨sl, hL⟩ := u.any ho I.free fun z => (hch _ z).2.1 rfl
  exact I.step (ch := ch) hch (fun b o hL hb hc e n => u.keep b o e n (fun z => (List.mem_cons.mp (I.stkSub b z)).elim hL hb) hc) (fun b o _ _ hc e n => u.any e n hc) (fun b o hc e n => u.free b o e n hc) (fun b o hc e => u.there b o e hc) u.tups u.frzs u.tbls (fun m' hm => by
    obtain ⟨o', es', ep', ho', r'⟩ := hm
    rw [ho] at ho'; cases ho'
    exact ⟨_, es', ep', hL, r'⟩) hok hg
theorem Inv.turned {t' : Nat} {it : Addr} (I : Inv X pins σ H s) (k : ∀ b o, b ≠ it → s.heap.get? b = some o → h'.get? b = some o) (hn : H it = none) (hL : it ≠ X.env.locals)
    (h1 : it ∈ X.ex ∨ X.s_0.heap.objs.size ≤ it) (h2 : ∀ x c, X.env.cells.lookup x = some c → c ≠ it) (h3 : ∀ p ∈ X.pn ++ pins, p.1 ≠ it) : Inv X pins σ H { s with heap := h', toks := t' } := by
  have nit : ∀ b u, H b = some u → b ≠ it := fun b u e z => by rw [z, hn] at e; cases e
  refine I.step (g' := s.gens) (d' := s.drawn) (ch := [it]) (fun b hb => ?_) (fun b o _ _ hc e _ => k b o (fun z => hc (by simp [z])) e) (fun b o _ _ hc e _ => ⟨o.slots, k b o (fun z => hc (by simp [z])) e⟩) (fun _ _ _ _ n => n)
    (fun b o hc e => ⟨o, k b o (fun z => hc (by simp [z])) e⟩) (fun _ _ e => e) (fun _ _ _ e => e) (fun b ps e => ⟨#[], by rw [e]; simp⟩) (fun m hm => ?_) (fun b u e => ?_) I.bare
  · have e : b = it := by simpa using hb
    subst e
    exact ⟨h1, hL, h2, h3⟩
  · obtain ⟨o, es, ep, ho, r⟩ := hm
    exact ⟨o, es, ep, k _ o (Ne.symm hL) ho, r⟩
  · refine (I.hok b u e).stay (fun c v hc q => k c v ?_ q) (fun _ q => q) fun _ _ q => q
    rcases hc with z | z
    · rw [z]; exact nit b u e
    · exact nit c _ z
theorem Inv.tok (I : Inv X pins σ H s) (t : Nat) : Inv X pins σ H { s with toks := t } := I.un (h' := s.heap) (t' := t) Un.refl I.hok
theorem Inv.kept {t' : Nat} (I : Inv X pins σ H s) (k : ∀ b u, s.heap.get? b = some u → h'.get? b = some u) : Inv X pins σ H { s with heap := h', toks := t' } := I.un (Un.kept k) (I.hok.kept k)
theorem Inv.laid {a : Addr} {o : HO} {t' : Nat} (I : Inv X pins σ H s) (k : ∀ b u, s.heap.get? b = some u → h'.get? b = some u) (hp : s.heap.objs.size ≤ a) (new : ObjOk X.prog X.w (upd H a o) h' a o) :
    Inv X pins σ (upd H a o) { s with heap := h', toks := t' } := I.un (Un.laid k hp (I.hok.fresh hp)) (I.hok.laid k hp new)
theorem Inv.write {x e : Addr} {o : HO} {t' : Nat} (I : Inv X pins σ H s) (mu : Mut (H x)) (he : e = x ∨ H e = some (.own x)) (k : ∀ b u, b ≠ e → s.heap.get? b = some u → h'.get? b = some u) (heo : ∃ u, h'.get? e = some u)
    (new : ObjOk X.prog X.w (upd H x o) h' x o) : Inv X pins σ (upd H x o) { s with heap := h', toks := t' } := I.un (Un.write mu he k heo) (I.hok.write mu he k heo new)
theorem Inv.weak {σ' : List (Option V)} (I : Inv X pins σ H s) (hl : σ'.length = σ.length) (w : ∀ (i : Nat) v, σ'[i]? = some (some v) → σ[i]? = some (some v)) : Inv X pins σ' H s :=
  ⟨I.ok, I.os, I.bare, I.base, let ⟨m, hn, hl'⟩ := I.loc; ⟨m, hn, fun i x v e1 e2 e3 => hl' i x v e1 (w i v e2) e3⟩, I.cell, I.free, I.freeC, I.pin, I.hok, hl.trans I.len⟩
theorem Inv.pins_of {pins' : List (Addr × Obj)} (I : Inv X pins σ H s) (h : ∀ p ∈ pins', s.heap.get? p.1 = some p.2 ∧ H p.1 = none ∧ p.1 ≠ X.env.locals ∧ p.1 ∉ X.fs ∧ ∀ v, p.2.data ≠ .cell v) : Inv X pins' σ H s :=
  ⟨I.ok, I.os, I.bare, I.base, I.loc, I.cell, I.free, I.freeC, fun p hp => (List.mem_append.mp hp).elim (fun z => I.pin p (List.mem_append_left _ z)) (h p), I.hok, I.len⟩
theorem nodup_ix {N : List Str} (hN : N.Nodup) {i j : Nat} {x : Str} (a : N[i]? = some x) (b : N[j]? = some x) : i = j := by
  obtain ⟨h1, e1⟩ := List.getElem?_eq_some_iff.mp a
  obtain ⟨h2, e2⟩ := List.getElem?_eq_some_iff.mp b
  exact (List.getElem_inj hN).mp (e1.trans e2.symm)
theorem store_ok2 {M : Model} {A : Around} {E : Value → Shared → Prop} {i : Nat} {x : Str} {v : V} {u : Value} {Q : Unit → Shared → Prop} (I : Inv X pins σ H s) (hN : X.N.Nodup) (hi : X.N[i]? = some x) (hx : Loc X.env.scope x) (r : RelV v u)
    (h : ∀ s', Inv X pins (σ.set i (some v)) H s' → (∃ a, Heap.SameBut a s.heap s'.heap ∧ (a = X.env.locals ∨ X.env.cells.lookup x = some a)) → Q () s') (hf : X.fn x = true ∨ X.env.scope.names.lookup x = some .local := by first | exact .inl rfl | exact .inr rfl | assumption) : wpAny M A (storeName X.env x u) Q E s := by
  obtain ⟨m, hn, hl⟩ := id I.loc
  have hcls : (X.env.scope.kind == .class || (X.env.scope.kind == .module && X.env.locals != X.env.globals)) = false := by rw [I.ok.kind]; rfl
  have hiσ : i < σ.length := by rw [I.len]; exact (List.getElem?_eq_some_iff.mp hi).1
  have cne := I.cne
  have tracked : ∀ {a : Addr} {h' : Heap}, (∃ o, s.heap.get? a = some o ∧ H a = none) → Heap.SameBut a s.heap h' → HOk X.prog X.w H h' := fun {a h'} ha hs b ob e => by
    obtain ⟨_, _, hfree⟩ := ha
    refine (I.hok b ob e).stay (fun c w' hc q => (hs.2 c ?_).trans q) (fun _ q => q) fun _ _ q => q
    rintro rfl
    rcases hc with rfl | hc
    · rw [hfree] at e; cases e
    · rw [hfree] at hc; cases hc
  rcases hx with hk | hk
  · refine wpAny_storeName_local hk hn (fun h' hn' hs => ?_) hcls
    obtain ⟨oL, _, _, hoL, _⟩ := id hn
    refine h _ ⟨I.ok, I.os, I.bare, ⟨fun b o e n hb hx => ?_, fun b o e n hb hx => ?_, I.base.free, fun b o e hx => ?_, I.base.tups, I.base.frzs, I.base.tbls⟩, ⟨_, hn', fun j y v' e1 e2 e3 => ?_⟩, fun y c e => ?_, I.free, I.freeC, fun p hp => ?_, tracked ⟨oL, hoL, I.free⟩ hs, by simpa using I.len⟩ ⟨_, hs, .inl rfl⟩
    · exact (hs.2 b (Nat.ne_of_lt (Nat.lt_of_lt_of_le (Heap.lt_size e) I.ok.above))).trans (I.base.keep b o e n hb hx)
    · obtain ⟨sl, e1⟩ := I.base.slot b o e n hb hx
      exact ⟨sl, (hs.2 b (Nat.ne_of_lt (Nat.lt_of_lt_of_le (Heap.lt_size e) I.ok.above))).trans e1⟩
    · obtain ⟨o', e1⟩ := I.base.there b o e hx
      exact ⟨o', (hs.2 b (Nat.ne_of_lt (Nat.lt_of_lt_of_le (Heap.lt_size e) I.ok.above))).trans e1⟩
    · by_cases hj : j = i
      · subst hj
        rw [hi] at e1; cases e1
        rw [List.getElem?_set_self hiσ] at e2
        cases e2
        exact ⟨u, r, .inl ⟨hk, by simp⟩⟩
      · rw [List.getElem?_set_ne (Ne.symm hj)] at e2
        obtain ⟨u', r', q⟩ := hl j y v' e1 e2 e3
        refine ⟨u', r', ?_⟩
        rcases q with ⟨k, e⟩ | ⟨k, c, e, z⟩
        · refine .inl ⟨k, ?_⟩
          have : y ≠ x := fun e => hj (nodup_ix hN e1 (e ▸ hi))
          simp [this, e]
        · exact .inr ⟨k, c, e, z.sameBut hs (cne y c e)⟩
    · obtain ⟨w', z⟩ := I.cell y c e
      exact ⟨w', z.sameBut hs (cne y c e)⟩
    · obtain ⟨e, n, ne, nf, d⟩ := I.pin p hp
      exact ⟨(hs.2 p.1 ne).trans e, n, ne, nf, d⟩
  · have hfn : X.fn x = true := by
      rcases hf with z | z
      · exact z
      · rw [z] at hk; cases hk
    obtain ⟨c, hc⟩ := I.ok.has x (.inl hk)
    obtain ⟨w', z⟩ := I.cell x c hc
    refine wpAny_storeName_cell I.ok.kind hk hc z (fun h' hc' hs => ?_)
    obtain ⟨oc, hoc, hocd⟩ := id z
    refine h { s with heap := h' } ⟨I.ok, I.os, I.bare, ⟨fun b o e n hb hx => ?_, fun b o e n hb hx => ?_, I.base.free, fun b o e hx => ?_, I.base.tups, I.base.frzs, I.base.tbls⟩, ⟨m, hn.sameBut hs (Ne.symm (cne x c hc)), fun j y v' e1 e2 e3 => ?_⟩, fun y c' e => ?_, I.free, I.freeC, fun p hp => ?_, tracked ⟨oc, hoc, I.freeC x c hc⟩ hs, by simpa using I.len⟩ ⟨c, hs, .inr hc⟩
    · exact (hs.2 b (Nat.ne_of_lt (Nat.lt_of_lt_of_le (Heap.lt_size e) (I.ok.cab x c hfn hc)))).trans (I.base.keep b o e n hb hx)
    · obtain ⟨sl, e1⟩ := I.base.slot b o e n hb hx
      exact ⟨sl, (hs.2 b (Nat.ne_of_lt (Nat.lt_of_lt_of_le (Heap.lt_size e) (I.ok.cab x c hfn hc)))).trans e1⟩
    · obtain ⟨o', e1⟩ := I.base.there b o e hx
      exact ⟨o', (hs.2 b (Nat.ne_of_lt (Nat.lt_of_lt_of_le (Heap.lt_size e) (I.ok.cab x c hfn hc)))).trans e1⟩
    · by_cases hj : j = i
      · subst hj
        rw [hi] at e1; cases e1
        rw [List.getElem?_set_self hiσ] at e2
        cases e2
        exact ⟨u, r, .inr ⟨.inl hk, c, hc, hc'⟩⟩
      · rw [List.getElem?_set_ne (Ne.symm hj)] at e2
        obtain ⟨u', r', q⟩ := hl j y v' e1 e2 e3
        refine ⟨u', r', ?_⟩
        rcases q with q | ⟨k, c', e, z'⟩
        · exact .inl q
        · refine .inr ⟨k, c', e, z'.sameBut hs ?_⟩
          rintro rfl
          exact hj (nodup_ix hN e1 (I.ok.inj _ _ _ e hc ▸ hi))
    · by_cases hcc : c' = c
      · subst hcc; exact ⟨_, hc'⟩
      · obtain ⟨w2, z2⟩ := I.cell y c' e
        exact ⟨w2, z2.sameBut hs hcc⟩
    · obtain ⟨e, n, ne, nf, d⟩ := I.pin p hp
      refine ⟨(hs.2 p.1 ?_).trans e, n, ne, nf, d⟩
      intro q
      rw [q, hoc] at e
      have q' : oc = p.2 := Option.some.inj e
      exact d w' (by rw [← q']; exact hocd)
theorem store_ok {M : Model} {A : Around} {E : Value → Shared → Prop} {i : Nat} {x : Str} {v : V} {u : Value} {Q : Unit → Shared → Prop} (I : Inv X pins σ H s) (hN : X.N.Nodup) (hi : X.N[i]? = some x) (hx : Loc X.env.scope x) (r : RelV v u)
    (h : ∀ s', Inv X pins (σ.set i (some v)) H s' → Q () s') (hf : X.fn x = true ∨ X.env.scope.names.lookup x = some .local := by first | exact .inl rfl | exact .inr rfl | assumption) : wpAny M A (storeName X.env x u) Q E s :=
  store_ok2 I hN hi hx r (fun s' I' _ => h s' I') hf
theorem Inv.call' {s' : Shared} {ch : List Addr} (I : Inv X pins σ H s) (ho : s'.os = s.os) (u : Un (frs X.stack) ch H H' s.heap s'.heap) (hok : HOk X.prog X.w H' s'.heap) (hg : AllBare s'.gens)
    (hch : ∀ b ∈ ch, (b ∈ X.ex ∨ X.s_0.heap.objs.size ≤ b) ∧ b ≠ X.env.locals ∧ (∀ x c, X.env.cells.lookup x = some c → c ≠ b) ∧ ∀ p ∈ X.pn ++ pins, p.1 ≠ b) : Inv X pins σ H' s' := by
  obtain ⟨h', g', d', t', o'⟩ := s'
  have e : o' = s.os := ho
  subst e
  exact I.call (g' := g') (t' := t') (d' := d') u hok hg hch
end
abbrev XK := Value → Option Addr → Hp → Prop
abbrev St := List (Option V)
abbrev VK := V → Hp → Prop
abbrev TE := St → Hp → VK → Prop
abbrev TT := St → Hp → (Bool → Hp → Prop) → Prop
abbrev TA := St → Hp → (List V → Hp → Prop) → Prop
structure Ends where
  nx : St → Hp → Prop
  rt : VK
  bk : St → Hp → Prop := fun _ _ => False
  ct : St → Hp → Prop := fun _ _ => False
abbrev TS := Ends → St → Hp → Prop
def EP (X : Cx) (pins : List (Addr × Obj)) (σ : St) (Q : VK) (u : Value) (s' : Shared) : Prop := ∃ v H', Inv X pins σ H' s' ∧ RelV v u ∧ Q v H'
def TP (X : Cx) (pins : List (Addr × Obj)) (σ : St) (Q : Bool → Hp → Prop) (b : Bool) (s' : Shared) : Prop := ∃ H', Inv X pins σ H' s' ∧ Q b H'
def AP (X : Cx) (pins : List (Addr × Obj)) (σ : St) (Q : List V → Hp → Prop) (us : List Value) (s' : Shared) : Prop := ∃ vs H', Inv X pins σ H' s' ∧ Vals vs us ∧ Q vs H'
def SP (X : Cx) (pins : List (Addr × Obj)) (D : Ends) (f : Flow) (s' : Shared) : Prop :=
  match f with
  | .next => ∃ σ' H', Inv X pins σ' H' s' ∧ D.nx σ' H'
  | .brk => ∃ σ' H', Inv X pins σ' H' s' ∧ D.bk σ' H'
  | .cont => ∃ σ' H', Inv X pins σ' H' s' ∧ D.ct σ' H'
  | .ret u => ∃ v σ' H', Inv X pins σ' H' s' ∧ RelV v u ∧ D.rt v H'
def PE (X : Cx) (e : Expr) (t : TE) : Prop :=
  ∀ (pins : List (Addr × Obj)) (s : Shared) (σ : St) (H : Hp) (Q : VK), Inv X pins σ H s → t σ H Q → wpAny (model X.prog X.w) X.A (eval e X.env) (EP X pins σ Q) X.xe s
def PT (X : Cx) (e : Expr) (t : TT) : Prop :=
  ∀ (pins : List (Addr × Obj)) (s : Shared) (σ : St) (H : Hp) (Q : Bool → Hp → Prop), Inv X pins σ H s → t σ H Q → wpAny (model X.prog X.w) X.A (isTrue e X.env (eval e X.env)) (TP X pins σ Q) X.xe s
def PW (X : Cx) (e : Expr) (t : TT) : Prop :=
  ∀ (whole : Sem Value) (pins : List (Addr × Obj)) (s : Shared) (σ : St) (H : Hp) (Q : Bool → Hp → Prop), Inv X pins σ H s → t σ H Q → wpAny (model X.prog X.w) X.A (isTrue e X.env whole) (TP X pins σ Q) X.xe s
theorem PW.pt {X : Cx} {e : Expr} {t : TT} (h : PW X e t) : PT X e t := h _
def PA (X : Cx) (es : List Expr) (t : TA) : Prop :=
  ∀ (pos : Pos) (pins : List (Addr × Obj)) (s : Shared) (σ : St) (H : Hp) (Q : List V → Hp → Prop), Inv X pins σ H s → t σ H Q → wpAny (model X.prog X.w) X.A (spliced (backTo pos (starEach es X.env))) (AP X pins σ Q) X.xe s
def PS (X : Cx) (st : Stmt) (t : TS) : Prop :=
  ∀ (pins : List (Addr × Obj)) (s : Shared) (σ : St) (H : Hp) (D : Ends), Inv X pins σ H s → t D σ H → wpAny (model X.prog X.w) X.A (exec st X.env) (SP X pins D) X.xe s
def PSs (X : Cx) (st : List Stmt) (t : TS) : Prop :=
  ∀ (pins : List (Addr × Obj)) (s : Shared) (σ : St) (H : Hp) (D : Ends), Inv X pins σ H s → t D σ H → wpAny (model X.prog X.w) X.A (execs st X.env) (SP X pins D) X.xe s
theorem thn {α : Type} {t : Sem α} {Q Q' : α → Shared → Prop} {M : Model} {A : Around} {E : Value → Shared → Prop} {s : Shared} (h : wpAny M A t Q E s) (hQ : ∀ a s, Q a s → Q' a s) : wpAny M A t Q' E s := wpAny_mono h hQ fun _ _ x => x
end L2
namespace L2
open PySem PySem.Spec PyProof.Rows
section
variable {X : Cx}
def tVar (i : Nat) : TE := fun σ H Q => ∃ v, σ[i]? = some (some v) ∧ Q v H
def tC (v : V) : TE := fun _ H Q => Q v H
theorem pe_var {i : Nat} {x : Str} {pos : Pos} (hN : X.N[i]? = some x) (hv : Vis X.env.scope x) (hd : (x == ("__debug__" : Str)) = false := by decide) (hcd : (x == ("__classdict__" : Str)) = false := by decide) : PE X (.Name x pos) (tVar i) := by
  intro pins s σ H Q I h
  obtain ⟨v, e, h⟩ := h
  obtain ⟨m, hn, hl⟩ := I.loc
  obtain ⟨u, r, l⟩ := hl i x v hN e hv
  have fin : EP X pins σ Q u s := ⟨v, H, I, r, h⟩
  rcases l with ⟨hk, hm⟩ | ⟨hk, c, hc, hcell⟩
  · exact wpAny_Name (wpAny_loadName_local I.ok.kind hk hn hm fin) hd
  · rcases hk with hk | hk
    · exact wpAny_Name (wpAny_loadName_cell I.ok.kind hk hc hcell fin) hd
    · exact wpAny_Name (wpAny_loadName_free I.ok.kind hk hc hcell fin hcd) hd
theorem pe_int {i j pos} : PE X (.Constant (.int i) j pos) (tC (.int i)) := fun _ _ _ H _ I h => wpAny_Constant_int ⟨.int i, H, I.tok _, ⟨_, rfl⟩, h⟩
theorem pe_bl {b j pos} : PE X (.Constant (.bool b) j pos) (tC (.bl b)) := fun _ _ _ H _ I h => Constant_bool ⟨.bl b, H, I, rfl, h⟩
def Gl (X : Cx) (x : Str) : Prop := X.env.kindOf x = some .globalImplicit
theorem ld_glob {E : Value → Shared → Prop} {pins : List (Addr × Obj)} {s : Shared} {σ : St} {H : Hp} {x : Str} {u : Value} {pos : Pos} {Q : Value → Shared → Prop} (I : Inv X pins σ H s) (hg : Gl X x) (hm : X.mg x = some u) (h : Q u s)
    (hd : (x == ("__debug__" : Str)) = false := by decide) : wpAny (model X.prog X.w) X.A (eval (.Name x pos) X.env) Q E s :=
  Calls.Name_function_global I.ok.kind hg (Calls.loadGlobal_global (by rw [I.ok.glob]; exact I.mod.glob.keeps I.bk) hm h) hd
theorem ld_blt {E : Value → Shared → Prop} {pins : List (Addr × Obj)} {s : Shared} {σ : St} {H : Hp} {x : Str} {u : Value} {pos : Pos} {Q : Value → Shared → Prop} (I : Inv X pins σ H s) (hg : Gl X x) (hm : X.mg x = none) (hv : bootBuiltins x = some u) (h : Q u s)
    (hn : x ≠ "__name__" := by decide) (hd : (x == ("__debug__" : Str)) = false := by decide) : wpAny (model X.prog X.w) X.A (eval (.Name x pos) X.env) Q E s := by
  obtain ⟨mb, h1, h2⟩ := I.mod.blt
  exact Calls.Name_function_global I.ok.kind hg (Calls.loadGlobal_builtin (by rw [I.ok.glob]; exact I.mod.glob.keeps I.bk) hm (by rw [I.ok.blt]; exact h1.keeps I.bk) ((h2 x hn).trans hv) h) hd
theorem pe_glob {x : Str} {v : V} {u : Value} {pos : Pos} (hg : Gl X x) (hm : X.mg x = some u) (r : RelV v u) (hd : (x == ("__debug__" : Str)) = false := by decide) : PE X (.Name x pos) (tC v) :=
  fun _ _ _ H _ I h => ld_glob I hg hm ⟨v, H, I, r, h⟩ hd
variable {a b : Expr} {ta tb : TE} {pos : Pos}
def PC (X : Cx) (op : CmpOp) (a b : Expr) (t : TE) : Prop :=
  ∀ (pins : List (Addr × Obj)) (s : Shared) (σ : St) (H : Hp) (Q : VK), Inv X pins σ H s → t σ H Q →
    wpAny (model X.prog X.w) X.A (eval a X.env) (fun v s₁ => wpAny (model X.prog X.w) X.A (eval b X.env) (fun u s₂ => wpAny (model X.prog X.w) X.A (compareOp op v u) (EP X pins σ Q) X.xe s₂) X.xe s₁) X.xe s
def tB (t : TE) : TT := fun σ H Q => t σ H fun x H1 => ∃ c, x = .bl c ∧ Q c H1
theorem pe_cmp {op : CmpOp} {t : TE} (h : PC X op a b t) (h1 : behindInMarks op b = false := by first | exact nobehind _ (by decide) (by decide) | rfl) : PE X (.Compare a [op] [b] pos) t := fun pins s σ H Q I hw => wpAny_Compare1 (h pins s σ H Q I hw) h1
theorem pt_val {e : Expr} {t : TE} (h : PE X e t) (he : ∀ whole, isTrue e X.env whole = (do let v ← whole; standAt e.pos; holding [v] (truthy v)) := by intro _; rfl) : PT X e (tB t) := by
  intro pins s σ H Q I hw
  refine isTrue_plain (thn (h pins s σ H _ I hw) fun v s1 ⟨x, H1, I1, r1, q1⟩ => ?_) (he _)
  obtain ⟨d, rfl, q⟩ := q1
  cases r1
  exact wpAny_truthy_bool ⟨H1, I1, q⟩
variable {tA tB' : TT} {rest : List Expr}
def tAnd (t u : TT) : TT := fun σ H Q => t σ H fun c H1 => if c = true then u σ H1 Q else Q false H1
def tOr (t u : TT) : TT := fun σ H Q => t σ H fun c H1 => if c = true then Q true H1 else u σ H1 Q
def tNot (t : TT) : TT := fun σ H Q => t σ H fun c H1 => Q (!c) H1
theorem pw_and1 (ha : PT X a tA) : PW X (.BoolOp .And [a] pos) tA := by
  intro wh pins s σ H Q I h
  refine isTrue_and (thn (ha pins s σ H Q I h) fun c s1 e => ?_)
  cases c with
  | true => exact isTrue_and_nil e
  | false => exact e
theorem pw_or1 (ha : PT X a tA) : PW X (.BoolOp .Or [a] pos) tA := by
  intro wh pins s σ H Q I h
  refine isTrue_or (thn (ha pins s σ H Q I h) fun c s1 e => ?_)
  cases c with
  | false => exact isTrue_or_nil e
  | true => exact e
theorem pw_and (ha : PT X a tA) (hb : PW X (.BoolOp .And (b :: rest) pos) tB') : PW X (.BoolOp .And (a :: b :: rest) pos) (tAnd tA tB') := by
  intro wh pins s σ H Q I h
  refine isTrue_and (thn (ha pins s σ H _ I h) fun c s1 ⟨H1, I1, q1⟩ => ?_)
  cases c with
  | true => exact hb wh pins s1 σ H1 Q I1 q1
  | false => exact ⟨H1, I1, q1⟩
theorem pw_or (ha : PT X a tA) (hb : PW X (.BoolOp .Or (b :: rest) pos) tB') : PW X (.BoolOp .Or (a :: b :: rest) pos) (tOr tA tB') := by
  intro wh pins s σ H Q I h
  refine isTrue_or (thn (ha pins s σ H _ I h) fun c s1 ⟨H1, I1, q1⟩ => ?_)
  cases c with
  | true => exact ⟨H1, I1, q1⟩
  | false => exact hb wh pins s1 σ H1 Q I1 q1
theorem pt_not (ha : PT X a tA) : PT X (.UnaryOp .Not a pos) (tNot tA) := by
  intro pins s σ H Q I h
  exact isTrue_not (ha pins s σ H (fun c H1 => Q (!c) H1) I h)
def tAndV (ta tb : TE) : TE := fun σ H Q => ta σ H fun x H1 => ∃ c, x = .bl c ∧ if c = true then tb σ H1 Q else Q (.bl false) H1
theorem pe_one {op} {t : TE} (h : PE X a t) : PE X (.BoolOp op [a] pos) t := fun pins s σ H Q I hw => BoolOp_one (h pins s σ H Q I hw)
theorem pe_and (ha : PE X a ta) (hb : PE X (.BoolOp .And (b :: rest) pos) tb) : PE X (.BoolOp .And (a :: b :: rest) pos) (tAndV ta tb) := by
  intro pins s σ H Q I h
  refine BoolOp_and (thn (ha pins s σ H _ I h) fun v s1 ⟨x, H1, I1, r1, q1⟩ => ?_)
  obtain ⟨c, rfl, q1⟩ := q1
  cases r1
  refine wpAny_truthy_bool ?_
  cases c with
  | true => exact hb pins s1 σ H1 Q I1 q1
  | false => exact ⟨.bl false, H1, I1, rfl, q1⟩
end
end L2
namespace L2
open PySem PySem.Spec PyProof.Rows
def SqL (K : PySem.W.Frag) (H : Hp) (a : Addr) (xs : List V) : Prop :=
  Rd H a (.lst xs) ∨
    ∃ (o : Obj) (its : Array Value) (n : Nat), K.lookup a = some o ∧ o.cls = .type "list" ∧ o.dict = none ∧ o.data = .seq its n ∧ its.size ≤ sizeLine ∧ Vals xs its.toList
def SqT (K : PySem.W.Frag) (H : Hp) (a : Addr) (xs : List V) : Prop :=
  Rd H a (.tup xs) ∨
    ∃ (o : Obj) (its : Array Value) (n : Nat), K.lookup a = some o ∧ o.cls = .type "tuple" ∧ o.data = .seq its n ∧ its.size ≤ sizeLine ∧ Vals xs its.toList
def absV : Value → Option V
  | .none => some .non
  | .bool b => some (.bl b)
  | .int i _ => some (.int i)
  | .str x _ => some (.str x)
  | .bytes b _ => some (.byt b)
  | .float b _ => some (.flt b)
  | .ref a => some (.ref a)
  | .type n => some (.ty n)
  | _ => none
theorem RelV.abs {x : V} {u : Value} (r : RelV x u) : absV u = some x := by
  cases x with
  | non => cases r; rfl
  | bl _ => cases r; rfl
  | int _ => obtain ⟨t, rfl⟩ := r; rfl
  | str _ => obtain ⟨t, rfl⟩ := r; rfl
  | byt _ => obtain ⟨t, rfl⟩ := r; rfl
  | flt _ => obtain ⟨t, rfl⟩ := r; rfl
  | ref _ => cases r; rfl
  | ty _ => cases r; rfl
theorem RelV.inj {x y : V} {u : Value} (r : RelV x u) (q : RelV y u) : x = y := Option.some.inj (r.abs.symm.trans q.abs)
theorem Vals.inj : ∀ {xs ys : List V} {us : List Value}, Vals xs us → Vals ys us → xs = ys
  | _, _, _, .nil, .nil => rfl
  | _, _, _, .cons r t, .cons r' t' => by rw [r.inj r', Vals.inj t t']
section
variable {X : Cx} {pins : List (Addr × Obj)} {σ : St} {H : Hp} {s : Shared} {a : Addr} {xs ys : List V}
theorem SqL.of {K : PySem.W.Frag} (h : H a = some (.lst xs)) : SqL K H a xs := .inl (.inl h)
theorem Inv.list (I : Inv X pins σ H s) (h : SqL X.K H a xs) : ∃ its : List Value, Vals xs its ∧ PlainL s.heap a its.toArray ∧ xs.length ≤ sizeLine := by
  rcases h with h | ⟨o, its, n, hk, hc, hd, hs, hz, r⟩
  · obtain ⟨z, its, n, r, e⟩ := h.ok I.hok
    exact ⟨its, r, ⟨_, n, e, rfl, rfl, rfl⟩, z⟩
  · refine ⟨its.toList, r, ⟨o, n, I.kIn a o hk, hc, hd, by simpa using hs⟩, ?_⟩
    have e := r.length
    simp only [Array.length_toList] at e
    omega
theorem Inv.tuple (I : Inv X pins σ H s) (h : SqT X.K H a xs) : ∃ its : List Value, Vals xs its ∧ IsTup s.heap a its.toArray ∧ xs.length ≤ sizeLine := by
  rcases h with h | ⟨o, its, n, hk, hc, hs, hz, r⟩
  · obtain ⟨z, its, r, p⟩ := h.ok I.hok
    exact ⟨its, r, p, z⟩
  · refine ⟨its.toList, r, ⟨o, I.kIn a o hk, hc, n, by simpa using hs⟩, ?_⟩
    have e := r.length
    simp only [Array.length_toList] at e
    omega
theorem Inv.list_inj (I : Inv X pins σ H s) (h : SqL X.K H a xs) (h' : SqL X.K H a ys) : xs = ys := by
  obtain ⟨its, r, ⟨o, n, e, _, _, d⟩, _⟩ := I.list h
  obtain ⟨its', r', ⟨o', n', e', _, _, d'⟩, _⟩ := I.list h'
  rw [e] at e'; cases e'
  rw [d] at d'
  injection d' with d1 _
  have : its = its' := by simpa using congrArg Array.toList d1
  subst this
  exact r.inj r'
end
abbrev Cx.wish (X : Cx) (E : Value → Shared → Prop) : Cx := { X with xe := E }
abbrev Cx.nox (X : Cx) : Cx := X.wish fun _ _ => False
theorem Cx.Ok.wish {X : Cx} (ok : X.Ok) (E : Value → Shared → Prop) : (X.wish E).Ok :=
  ⟨ok.mod, ok.kind, ok.glob, ok.blt, ok.above, ok.inj, ok.has, ok.cab, ok.hd, ok.frames, ok.stk, ok.exf, ok.bs, ok.bsz, ok.noex, ok.exfs, ok.funs, ok.frf⟩
theorem Cx.Ok.unwish {X : Cx} {E : Value → Shared → Prop} (ok : (X.wish E).Ok) : X.Ok :=
  ⟨ok.mod, ok.kind, ok.glob, ok.blt, ok.above, ok.inj, ok.has, ok.cab, ok.hd, ok.frames, ok.stk, ok.exf, ok.bs, ok.bsz, ok.noex, ok.exfs, ok.funs, ok.frf⟩
section
variable {X : Cx} {pins : List (Addr × Obj)} {σ : St} {H : Hp} {s : Shared} {E : Value → Shared → Prop}
theorem Inv.wish (I : Inv X pins σ H s) (E : Value → Shared → Prop) : Inv (X.wish E) pins σ H s := ⟨I.ok.wish E, I.os, I.bare, I.base, I.loc, I.cell, I.free, I.freeC, I.pin, I.hok, I.len⟩
theorem Inv.unwish (I : Inv (X.wish E) pins σ H s) : Inv X pins σ H s := ⟨I.ok.unwish, I.os, I.bare, I.base, I.loc, I.cell, I.free, I.freeC, I.pin, I.hok, I.len⟩
theorem SP.unwish {D : Ends} {f : Flow} {s' : Shared} (h : SP (X.wish E) pins D f s') : SP X pins D f s' := by
  cases f with
  | next => obtain ⟨σ', H', I, q⟩ := h; exact ⟨σ', H', I.unwish, q⟩
  | brk => obtain ⟨σ', H', I, q⟩ := h; exact ⟨σ', H', I.unwish, q⟩
  | cont => obtain ⟨σ', H', I, q⟩ := h; exact ⟨σ', H', I.unwish, q⟩
  | ret u => obtain ⟨v, σ', H', I, r, q⟩ := h; exact ⟨v, σ', H', I.unwish, r, q⟩
theorem PSs.nox {st : List Stmt} {t : TS} (h : PSs X.nox st t) : PSs X st t := fun pins s σ H D I hw =>
  wpAny_mono (h pins s σ H D (I.wish _) hw) (fun _ _ q => q.unwish) fun _ _ z => False.elim z
end
section
variable {X : Cx} {st : Stmt} {rest : List Stmt} {t u : TS} {e : Expr} {te : TE} {pos : Pos}
def tNext : TS := fun D σ H => D.nx σ H
def tSeq (t u : TS) : TS := fun D σ H => t { D with nx := u D } σ H
theorem pss_nil : PSs X [] tNext := fun _ _ σ H _ I h => wpAny_execs_nil ⟨σ, H, I, h⟩
theorem pss_cons (h1 : PS X st t) (h2 : PSs X rest u) : PSs X (st :: rest) (tSeq t u) := by
  intro pins s σ H D I h
  refine wpAny_execs_cons (thn (h1 pins s σ H { D with nx := u D } I h) fun f s1 q => ?_)
  cases f with
  | next =>
    obtain ⟨σ', H', I', q⟩ := q
    exact h2 pins s1 σ' H' D I' q
  | ret v => exact q
  | brk => exact q
  | cont => exact q
theorem pss_one (h1 : PS X st t) : PSs X [st] t := by
  intro pins s σ H D I h
  refine wpAny_execs_cons (thn (h1 pins s σ H D I h) fun f s1 q => ?_)
  cases f with
  | next => exact wpAny_execs_nil q
  | ret v => exact q
  | brk => exact q
  | cont => exact q
theorem Inv.quiet {pins : List (Addr × Obj)} {σ : St} {H : Hp} {s : Shared} (I : Inv X pins σ H s) : interactive X.env = false := by simp [interactive, I.ok.kind]
def tDrop (te : TE) : TS := fun D σ H => te σ H fun _ H1 => D.nx σ H1
theorem ps_expr (he : PE X e te) (hs : swapsWith e none pos.line X.env = pure false := by rfl) : PS X (.Expr e pos) (tDrop te) := by
  intro pins s σ H D I h
  exact wpAny_Expr_any (thn (he pins s σ H _ I h) fun v s1 ⟨x, H1, I1, r1, q1⟩ => ⟨σ, H1, I1, q1⟩) I.quiet hs
def tRet (te : TE) : TS := fun D σ H => te σ H D.rt
theorem ps_ret (he : PE X e te) : PS X (.Return (some e) pos) (tRet te) := by
  intro pins s σ H D I h
  exact wpAny_Return_some (thn (he pins s σ H _ I h) fun v s1 ⟨x, H1, I1, r1, q1⟩ => ⟨x, σ, H1, I1, r1, q1⟩)
def tIfS (c : TT) (t u : TS) : TS := fun D σ H => c σ H fun b H1 => if b = true then t D σ H1 else u D σ H1
theorem ps_if {c : Expr} {a b : List Stmt} {tc : TT} (hc : PT X c tc) (ha : PSs X a t) (hb : PSs X b u) : PS X (.If c a b pos) (tIfS tc t u) := by
  intro pins s σ H D I h
  refine wpAny_If (thn (hc pins s σ H _ I h) fun d s1 ⟨H1, I1, q1⟩ => ?_)
  cases d with
  | true => exact ha pins s1 σ H1 D I1 q1
  | false => exact hb pins s1 σ H1 D I1 q1
end
abbrev TG := V → St → Hp → (St → Hp → Prop) → Prop
def PG (X : Cx) (target : Expr) (t : TG) : Prop :=
  ∀ (pins : List (Addr × Obj)) (s : Shared) (σ : St) (H : Hp) (v : V) (u : Value) (Q : St → Hp → Prop), Inv X pins σ H s → RelV v u → t v σ H Q →
    wpAny (model X.prog X.w) X.A (assign target X.env u) (fun _ s' => ∃ σ' H', Inv X pins σ' H' s' ∧ Q σ' H') X.xe s
abbrev TSet := V → V → V → Hp → (Hp → Prop) → Prop
def PSet (X : Cx) (t : TSet) : Prop :=
  ∀ (pins : List (Addr × Obj)) (s : Shared) (σ : St) (H : Hp) (o i v : V) (ov iv u : Value) (Q : Hp → Prop), Inv X pins σ H s → RelV o ov → RelV i iv → RelV v u → t o i v H Q →
    wpAny (model X.prog X.w) X.A (setItem ov iv u) (fun _ s' => ∃ H', Inv X pins σ H' s' ∧ Q H') X.xe s
abbrev TIp := V → V → Hp → VK → Prop
def PIp (X : Cx) (op : Operator) (t : TIp) : Prop :=
  ∀ (pins : List (Addr × Obj)) (s : Shared) (σ : St) (H : Hp) (x y : V) (v u : Value) (Q : VK), Inv X pins σ H s → RelV x v → RelV y u → t x y H Q →
    wpAny (model X.prog X.w) X.A (inplaceOp op v u) (EP X pins σ Q) X.xe s
section
variable {X : Cx} {pos : Pos}
def gName (i : Nat) : TG := fun v σ H Q => Q (σ.set i (some v)) H
theorem pg_name {i : Nat} {x : Str} (hN : X.N.Nodup) (hi : X.N[i]? = some x) (hx : Loc X.env.scope x) (hf : X.fn x = true ∨ X.env.scope.names.lookup x = some .local := by first | exact .inl rfl | exact .inr rfl | assumption) : PG X (.Name x pos) (gName i) := by
  intro pins s σ H v u Q I r h
  exact wpAny_assign_Name (store_ok I hN hi hx r (fun s' I' => ⟨_, H, I', h⟩) hf)
def gSub (to ti : TE) (t : TSet) : TG := fun v σ H Q => to σ H fun o H1 => ti σ H1 fun i H2 => t o i v H2 fun H3 => Q σ H3
theorem pg_sub {o i : Expr} {to ti : TE} {t : TSet} (ho : PE X o to) (hi : PE X i ti) (hs : PSet X t)
    (ha : ∀ v, assign (.Subscript o i pos) X.env v = (do
      let ov ← holding [v] (eval o X.env)
      let iv ← holding [v, ov] (eval i X.env)
      standAt pos
      holding [v, ov, iv] (setItem ov iv v)
      release [v, ov, iv] []) := by intro _; rfl) : PG X (.Subscript o i pos) (gSub to ti t) := by
  intro pins s σ H v u Q I r h
  rw [ha]
  refine wpAny_bind (wpAny_holding (thn (ho pins s σ H _ I h) fun ov s1 ⟨x, H1, I1, r1, q1⟩ => ?_))
  refine wpAny_bind (wpAny_holding (thn (hi pins s1 σ H1 _ I1 q1) fun iv s2 ⟨y, H2, I2, r2, q2⟩ => ?_))
  refine wpAny_bind (wpAny_standAt (wpAny_bind (wpAny_holding (thn (hs pins s2 σ H2 x y v ov iv u _ I2 r1 r2 r q2) fun _ s3 ⟨H3, I3, q3⟩ => ?_))))
  exact wpAny_release ⟨σ, H3, I3, q3⟩
def tAsg (te : TE) (g : TG) : TS := fun D σ H => te σ H fun x H1 => g x σ H1 D.nx
theorem ps_asg {tg e : Expr} {te : TE} {g : TG} (he : PE X e te) (hg : PG X tg g) (hs : swapsWithSole [tg] e pos.line X.env = pure false := by rfl) (hw : swappedStores [tg] e X.env = pure none := by rfl)
    (h1 : (assignEach [tg] X.env).map (·.2) = [assign tg X.env] := by rfl) : PS X (.Assign [tg] e pos) (tAsg te g) := by
  intro pins s σ H D I h
  refine wpAny_Assign_stores (thn (he pins s σ H _ I h) fun v s1 ⟨x, H1, I1, r1, q1⟩ => ?_) hs hw
  rw [h1]
  exact thn (hg pins s1 σ H1 x v _ I1 r1 q1) fun _ s2 q => q
theorem ps_set {i : Nat} {x : Str} {e : Expr} {te : TE} {pos' : Pos} (hN : X.N.Nodup) (hi : X.N[i]? = some x) (hx : Loc X.env.scope x) (he : PE X e te) (hs : swapsWith e (some (.Name x pos')) pos.line X.env = pure false := by rfl) (hf : X.fn x = true ∨ X.env.scope.names.lookup x = some .local := by first | exact .inl rfl | exact .inr rfl | assumption) :
    PS X (.Assign [.Name x pos'] e pos) (tAsg te (gName i)) := by
  intro pins s σ H D I h
  refine wpAny_Assign_Name (thn (he pins s σ H _ I h) fun v s1 ⟨y, H1, I1, r1, q1⟩ => ?_) hs
  exact store_ok I1 hN hi hx r1 (fun s2 I2 => ⟨_, H1, I2, q1⟩) hf
def tAug (i : Nat) (te : TE) (ti : TIp) : TS := fun D σ H => ∃ x, σ[i]? = some (some x) ∧ te σ H fun y H1 => ti x y H1 fun z H2 => D.nx (σ.set i (some z)) H2
theorem ps_aug {i : Nat} {x : Str} {e : Expr} {te : TE} {op : Operator} {ti : TIp} {pos' : Pos} (hN : X.N.Nodup) (hi : X.N[i]? = some x) (hx : Loc X.env.scope x) (he : PE X e te) (ho : PIp X op ti) (hf : X.fn x = true ∨ X.env.scope.names.lookup x = some .local := by first | exact .inl rfl | exact .inr rfl | assumption) :
    PS X (.AugAssign (.Name x pos') op e pos) (tAug i te ti) := by
  intro pins s σ H D I h
  obtain ⟨v, e1, h⟩ := h
  obtain ⟨m, hn, hl⟩ := I.loc
  have vis : Vis X.env.scope x := by rcases hx with k | k; exact .inl k; exact .inr (.inl k)
  obtain ⟨u, r, l⟩ := hl i x v hi e1 vis
  refine wpAny_AugAssign_Name ?_
  have go : wpAny (model X.prog X.w) X.A (eval e X.env) (fun w s₂ => wpAny (model X.prog X.w) X.A (inplaceOp op u w) (fun r s₃ => wpAny (model X.prog X.w) X.A (storeName X.env x r) (fun _ => SP X pins D .next) X.xe s₃) X.xe s₂) X.xe s := by
    refine thn (he pins s σ H _ I h) fun w s1 ⟨y, H1, I1, r1, q1⟩ => ?_
    refine thn (ho pins s1 σ H1 v y u w _ I1 r r1 q1) fun z s2 ⟨zv, H2, I2, r2, q2⟩ => ?_
    exact store_ok I2 hN hi hx r2 (fun s3 I3 => ⟨_, H2, I3, q2⟩) hf
  rcases l with ⟨hk, hm⟩ | ⟨hk, c, hc, hcell⟩
  · exact wpAny_loadName_local I.ok.kind hk hn hm go
  · rcases hk with hk | hk
    · exact wpAny_loadName_cell I.ok.kind hk hc hcell go
    · rcases hx with k | k
      · have : X.env.scope.names.lookup x = some .free := hk
        rw [k] at this; cases this
      · have : X.env.scope.names.lookup x = some .free := hk
        rw [k] at this; cases this
def tAugS (to ti te : TE) (tget : V → V → Hp → VK → Prop) (tip : TIp) (tset : TSet) : TS := fun D σ H => to σ H fun o H1 => ti σ H1 fun i H2 => tget o i H2 fun x H3 => te σ H3 fun y H4 => tip x y H4 fun z H5 => tset o i z H5 fun H6 => D.nx σ H6
def PGet (X : Cx) (t : V → V → Hp → VK → Prop) : Prop :=
  ∀ (pins : List (Addr × Obj)) (s : Shared) (σ : St) (H : Hp) (o i : V) (ov iv : Value) (Q : VK), Inv X pins σ H s → RelV o ov → RelV i iv → t o i H Q →
    wpAny (model X.prog X.w) X.A (getItem ov iv) (EP X pins σ Q) X.xe s
theorem ps_augS {o i e : Expr} {to ti te : TE} {tget : V → V → Hp → VK → Prop} {tip : TIp} {tset : TSet} {op : Operator} {tpos : Pos} (ho : PE X o to) (hi : PE X i ti) (hg : PGet X tget) (he : PE X e te) (hp : PIp X op tip) (hs : PSet X tset)
    (ha : ∀ ov iv new, augStore i ov iv new = (do holding [new, ov, iv] (setItem ov iv new); release [new, ov, iv] []; pure .next) := by intros; rfl) : PS X (.AugAssign (.Subscript o i tpos) op e pos) (tAugS to ti te tget tip tset) := by
  intro pins s σ H D I h
  refine wpAny_AugAssign_SubscriptAny (thn (ho pins s σ H _ I h) fun ov s1 ⟨x1, H1, I1, r1, q1⟩ => ?_) ha
  refine thn (hi pins s1 σ H1 _ I1 q1) fun iv s2 ⟨x2, H2, I2, r2, q2⟩ => ?_
  refine thn (hg pins s2 σ H2 x1 x2 ov iv _ I2 r1 r2 q2) fun old s3 ⟨x3, H3, I3, r3, q3⟩ => ?_
  refine thn (he pins s3 σ H3 _ I3 q3) fun v s4 ⟨x4, H4, I4, r4, q4⟩ => ?_
  refine thn (hp pins s4 σ H4 x3 x4 old v _ I4 r3 r4 q4) fun new s5 ⟨x5, H5, I5, r5, q5⟩ => ?_
  exact thn (hs pins s5 σ H5 x1 x2 x5 ov iv new _ I5 r1 r2 r5 q5) fun _ s6 ⟨H6, I6, q6⟩ => ⟨σ, H6, I6, q6⟩
def ipI (f : Int → Int → Int) : TIp := fun x y H Q => ∃ i j, x = .int i ∧ y = .int j ∧ Q (.int (f i j)) H
theorem ip_add : PIp X .Add (ipI fun i j => i + j) := by
  intro pins s σ H x y v u Q I r1 r2 h
  obtain ⟨i, j, e1, e2, q⟩ := h
  subst e1; subst e2
  obtain ⟨t, rfl⟩ := r1
  obtain ⟨t', rfl⟩ := r2
  exact iadd_int ⟨.int _, H, I.tok _, ⟨_, rfl⟩, q⟩
theorem ip_sub : PIp X .Sub (ipI fun i j => i - j) := by
  intro pins s σ H x y v u Q I r1 r2 h
  obtain ⟨i, j, e1, e2, q⟩ := h
  subst e1; subst e2
  obtain ⟨t, rfl⟩ := r1
  obtain ⟨t', rfl⟩ := r2
  exact isub_int ⟨.int _, H, I.tok _, ⟨_, rfl⟩, q⟩
end
section
variable {X : Cx} {pos : Pos}
def tWhile (c : TT) (tb : TS) : TS := fun D σ H => ∃ W : Nat → St → Hp → Prop, (∃ m, W m σ H) ∧ ∀ m σ H, W m σ H →
  c σ H fun b H1 => if b = true then ∃ N : St → Hp → Prop, (∀ σ' H', N σ' H' → ∃ m', m' < m ∧ W m' σ' H') ∧ tb { D with nx := N, ct := N, bk := D.nx } σ H1 else D.nx σ H1
theorem ps_while {c : Expr} {body : List Stmt} {tc : TT} {tb : TS} (hp : PassesOwn (model X.prog X.w) X.A X.env X.xe) (hc : PT X c tc) (hb : PSs X body tb) : PS X (.While c body [] pos) (tWhile tc tb) := by
  intro pins s σ H D I h
  obtain ⟨W, ⟨m0, w0⟩, turn⟩ := h
  refine wpAny_While (codeAny_whileLoop (fun n s' => ∃ σ' H', Inv X pins σ' H' s' ∧ W n σ' H') ?_ m0 ⟨σ, H, I, w0⟩)
  rintro n s1 ⟨σ1, H1, I1, w1⟩
  refine wpAny_passesOwn hp (thn (hc pins s1 σ1 H1 _ I1 (turn n σ1 H1 w1)) fun b s2 ⟨H2, I2, q2⟩ => ?_)
  cases b with
  | true =>
    obtain ⟨N, hN, q2⟩ := q2
    rw [if_pos rfl]
    refine wpAny_passesOwn hp (thn (hb pins s2 σ1 H2 _ I2 q2) fun f s3 q3 => ?_)
    cases f with
    | next =>
      obtain ⟨σ3, H3, I3, n3⟩ := q3
      obtain ⟨m', hm, w3⟩ := hN σ3 H3 n3
      exact ⟨m', hm, σ3, H3, I3, w3⟩
    | cont =>
      obtain ⟨σ3, H3, I3, n3⟩ := q3
      obtain ⟨m', hm, w3⟩ := hN σ3 H3 n3
      exact ⟨m', hm, σ3, H3, I3, w3⟩
    | brk => exact q3
    | ret v => exact q3
  | false =>
    rw [if_neg Bool.false_ne_true]
    exact wpAny_execs_nil ⟨σ1, H2, I2, q2⟩
end
structure It where
  go : Nat → Hp → Prop
  yld : Nat → Hp → V → Hp → Prop
  stop : Nat → Hp → Prop
def FpOk (X : Cx) (pins : List (Addr × Obj)) (H : Hp) (b : Addr) : Prop :=
  H b = none ∧ b ≠ X.env.locals ∧ b ∉ X.fs ∧ (b ∈ X.ex ∨ X.s_0.heap.objs.size ≤ b) ∧ (∀ x c, X.env.cells.lookup x = some c → c ≠ b) ∧ ∀ p ∈ X.pn ++ pins, p.1 ≠ b
theorem Inv.fpOk {X : Cx} {pins : List (Addr × Obj)} {σ : St} {H H' : Hp} {s : Shared} {b : Addr} (I : Inv X pins σ H s) (hb : s.heap.objs.size ≤ b) (hn : H' b = none) : FpOk X pins H' b := by
  refine ⟨hn, Nat.ne_of_gt (Nat.lt_of_lt_of_le I.lt hb), I.nofs hb, .inr (Nat.le_trans I.sz hb), fun x c e z => ?_, fun p hp z => ?_⟩
  · obtain ⟨v, q⟩ := I.cell x c e
    exact absurd (Nat.lt_of_lt_of_le q.lt (by rw [z]; exact hb)) (Nat.lt_irrefl _)
  · exact absurd (Nat.lt_of_lt_of_le (Heap.lt_size (I.pin p hp).1) (by rw [z]; exact hb)) (Nat.lt_irrefl _)
structure Turn (P : Program) (w : World) (K : PySem.W.Frag) (tg : Expr) (J : It) (fp : List Addr) (it : Addr) (tn : Nat → Heap → Prop) : Prop where
  mem : it ∈ fp
  obj : ∀ i h, tn i h → ∀ b ∈ fp, ∃ o, h.get? b = some o ∧ ∀ v, o.data ≠ .cell v
  keep : ∀ i h h', tn i h → (∀ b ∈ fp, ∀ o, h.get? b = some o → h'.get? b = some o) → tn i h'
  item : ∀ (X : Cx), X.prog = P → X.w = w → X.K = K → X.calm = true → ∀ (i : Nat) (pins : List (Addr × Obj)) (s : Shared) (σ : St) (H : Hp) (E : Value → Shared → Prop), Inv X pins σ H s → (∀ b ∈ fp, FpOk X pins H b) → tn i s.heap → J.go i H →
    wpAny (model P w) X.A (pyNext (.ref it)) (fun r s1 => ∃ u, r = some u ∧
      wpAny (model P w) X.A (letOwnedTupleGo tg (.ref it) u) (fun _ s2 => ∃ x H', Inv X pins σ H' s2 ∧ RelV x u ∧ J.yld i H x H' ∧ tn (i + 1) s2.heap ∧ ∀ b ∈ fp, H' b = none) E s1) E s
  done : ∀ (X : Cx), X.prog = P → X.w = w → X.K = K → X.calm = true → ∀ (i : Nat) (pins : List (Addr × Obj)) (s : Shared) (σ : St) (H : Hp) (E : Value → Shared → Prop), Inv X pins σ H s → (∀ b ∈ fp, FpOk X pins H b) → tn i s.heap → J.stop i H →
    wpAny (model P w) X.A (pyNext (.ref it)) (fun r s1 => r = none ∧ Inv X pins σ H s1) E s
  self : ∀ (A : Around) (i : Nat) (s : Shared) (Q : Value → Shared → Prop) (E : Value → Shared → Prop), tn i s.heap → Q (.ref it) s → wpAny (model P w) A (pyIter (.ref it)) Q E s
abbrev TI := St → Hp → (It → Hp → Prop) → Prop
def PIE (X : Cx) (pins : List (Addr × Obj)) (σ : St) (tg : Expr) (R : It → Hp → Prop) (itv : Value) (s2 : Shared) : Prop :=
  ∃ (it : Addr) (fp : List Addr) (tn : Nat → Heap → Prop) (J : It) (H' : Hp), itv = .ref it ∧ Inv X pins σ H' s2 ∧ Turn X.prog X.w X.K tg J fp it tn ∧ tn 0 s2.heap ∧ (∀ b ∈ fp, FpOk X pins H' b) ∧ R J H'
def PI (X : Cx) (tg iter : Expr) (wi : TI) : Prop :=
  ∀ (pins : List (Addr × Obj)) (s : Shared) (σ : St) (H : Hp) (R : It → Hp → Prop), Inv X pins σ H s → wi σ H R →
    wpAny (model X.prog X.w) X.A (eval iter X.env) (fun v s1 => wpAny (model X.prog X.w) X.A (pyIter v) (PIE X pins σ tg R) X.xe s1) X.xe s
theorem go_of {M : Model} {A : Around} {E : Value → Shared → Prop} {s : Shared} {tg : Expr} {it : Addr} {u : Value} {o : Obj} {n : String} {vs : Array Value} {Q : Unit → Shared → Prop} (ho : s.heap.get? it = some o) (hc : o.cls = .type n) (hd : o.data = .fields vs)
    (hn : ["enumerate", "zip", "dict_itemiterator", "dict_reverseitemiterator", "odict_iterator", "itertools.zip_longest", "itertools.pairwise"].contains n = false) (hQ : Q () s) : wpAny M A (letOwnedTupleGo tg (.ref it) u) Q E s := by
  unfold letOwnedTupleGo
  cases tg <;> first
    | exact wpAny_pure hQ
    | (cases u <;> first
        | exact wpAny_pure hQ
        | (refine wpAny_bind (wpAny_load ho ?_)
           rw [hc, hd]
           show wpAny M A (if (["enumerate", "zip", "dict_itemiterator", "dict_reverseitemiterator", "odict_iterator", "itertools.zip_longest", "itertools.pairwise"].contains n && vs[0]? == some (rawInt _)) = true then _ else _) Q E s
           rw [if_neg (by intro h; rw [hn, Bool.false_and] at h; cases h)]
           exact wpAny_pure hQ))
def Itl (K : PySem.W.Frag) (a : Addr) : It :=
  ⟨fun i H => ∃ xs x, SqL K H a xs ∧ xs[i]? = some x, fun i H x H' => H' = H ∧ ∀ xs, SqL K H a xs → xs[i]? = some x, fun i H => ∃ xs, SqL K H a xs ∧ xs.length ≤ i⟩
def Itr (lo : Int) (n : Nat) : It := ⟨fun i _ => i < n, fun i H x H' => H' = H ∧ x = .int (lo + i), fun i _ => n ≤ i⟩
theorem turn_list {P : Program} {w : World} {K : PySem.W.Frag} {tg : Expr} (a it : Addr) : Turn P w K tg (Itl K a) [it] it (fun i h => h.IsListIter it a i) where
  mem := by simp
  obj := fun i h st b hb => by
    have e : b = it := by simpa using hb
    subst e
    obtain ⟨o, e, c, d⟩ := st
    exact ⟨o, e, fun v z => by rw [d] at z; cases z⟩
  keep := fun i h h' st k => st.at fun o e => k it (by simp) o e
  item := by
    intro X hP hw hK hc i pins s σ H E I hf st hg
    subst hP hw hK
    obtain ⟨xs, x, hq, hx⟩ := hg
    obtain ⟨its, rv, p, hz⟩ := I.list hq
    obtain ⟨u, hu, ru⟩ := rv.get hx
    obtain ⟨f0, f1, f2, f3, f4, f5⟩ := hf it (by simp)
    refine wpAny_pyNext_list_item st p.isList (x := u) (by simpa using hu) fun h' st' sb => ?_
    have I1 : Inv X pins σ H { s with heap := h' } := I.turned (t' := s.toks) (fun b o hb e => (sb.2 b hb).trans e) f0 f1 f3 f4 f5
    obtain ⟨o, e, c, d⟩ := id st'
    exact ⟨u, rfl, go_of (s := { s with heap := h' }) e c d (by decide) ⟨x, H, I1, ru, ⟨rfl, fun ys hy => by rw [I.list_inj hy hq]; exact hx⟩, st', fun b hb => (hf b hb).1⟩⟩
  done := by
    intro X hP hw hK hc i pins s σ H E I hf st hg
    subst hP hw hK
    obtain ⟨xs, hq, hx⟩ := hg
    obtain ⟨its, rv, p, hz⟩ := I.list hq
    obtain ⟨f0, f1, f2, f3, f4, f5⟩ := hf it (by simp)
    have hl := rv.length
    exact wpAny_pyNext_list_end (I.ok.hd hc) st p.isList (by simp; omega) fun h' eb => ⟨rfl, I.turned (t' := s.toks) (fun b o hb e => eb b o hb e) f0 f1 f3 f4 f5⟩
  self := fun _ _ _ _ _ st h => wpAny_pyIter_listiter st h
theorem turn_range {P : Program} {w : World} {K : PySem.W.Frag} {tg : Expr} (it : Addr) (lo : Int) (n : Nat) : Turn P w K tg (Itr lo n) [it] it (fun i h => IsRangeIter h it (lo + (i : Nat) * 1) ((n : Int) - (i : Nat)) 1) where
  mem := by simp
  obj := fun i h st b hb => by
    have e : b = it := by simpa using hb
    subst e
    exact ⟨_, st, fun v z => by
      have z' : Data.fields _ = Data.cell v := z
      cases z'⟩
  keep := fun i h h' st k => k it (by simp) _ st
  item := by
    intro X hP hw hK hc i pins s σ H E I hf st hg
    subst hP hw hK
    obtain ⟨f0, f1, f2, f3, f4, f5⟩ := hf it (by simp)
    have W := Walks.range (prog := X.prog) (w := X.w) (I.ok.hd hc) it lo 1 n
    refine W.item i s _ _ hg st fun v h' tk hv st' kk => ?_
    obtain ⟨t, rfl⟩ := hv
    have I1 : Inv X pins σ H { s with heap := h', toks := tk } := I.turned (fun b o hb e => kk b o (by simpa using hb) e) f0 f1 f3 f4 f5
    refine ⟨_, rfl, go_of (s := { s with heap := h', toks := tk }) (n := "range_iterator") st' rfl rfl (by decide) ⟨.int (lo + i), H, I1, ⟨t, ?_⟩, ⟨rfl, rfl⟩, st', fun b hb => (hf b hb).1⟩⟩
    rw [Int.mul_one]
  done := by
    intro X hP hw hK hc i pins s σ H E I hf st hg
    subst hP hw hK
    obtain ⟨f0, f1, f2, f3, f4, f5⟩ := hf it (by simp)
    exact wpAny_pyNext_range_end (I.ok.hd hc) st (by have : n ≤ i := hg; omega) fun h' eb => ⟨rfl, I.turned (t' := s.toks) (fun b o hb e => eb b o hb e) f0 f1 f3 f4 f5⟩
  self := fun _ _ _ _ _ st h => wpAny_pyIter_rangeiter st h
end L2
namespace L2
open PySem PySem.Spec PyProof.Rows
section
variable {X : Cx} {tg : Expr}
def iList (K : PySem.W.Frag) (tl : TE) : TI := fun σ H R => tl σ H fun x H1 => ∃ a, x = .ref a ∧ (∃ xs, SqL K H1 a xs) ∧ R (Itl K a) H1
theorem pi_list {l : Expr} {tl : TE} (hl : PE X l tl) : PI X tg l (iList X.K tl) := by
  intro pins s σ H R I h
  refine thn (hl pins s σ H _ I h) fun v s1 ⟨x, H1, I1, r1, q1⟩ => ?_
  obtain ⟨a, e, ⟨xs, hq⟩, q⟩ := q1
  subst e
  cases r1
  obtain ⟨its, rv, p, hz⟩ := I1.list hq
  refine wpAny_pyIter_list p.isList ?_
  refine ⟨s1.heap.objs.size, [s1.heap.objs.size], _, _, H1, rfl, I1.kept (t' := s1.toks) fun b o e => Heap.get?_push_of_some _ e, turn_list a _, ⟨_, Heap.get?_push_size _ rfl, rfl, rfl⟩, fun b hb => ?_, q⟩
  have e : b = s1.heap.objs.size := by simpa using hb
  subst e
  exact I1.fpOk (Nat.le_refl _) (I1.hok.fresh (Nat.le_refl _))
theorem range_it {pins : List (Addr × Obj)} {σ : St} {H : Hp} {s : Shared} {R : It → Hp → Prop} {E : Value → Shared → Prop} {lo hi : Int} {t u v : Tok} {tk : Nat} (I : Inv X pins σ H s) (h1 : -(2 ^ 62) ≤ lo) (h2 : lo < 2 ^ 62) (h3 : -(2 ^ 62) ≤ hi) (h4 : hi < 2 ^ 62)
    (q : R (Itr lo (hi - lo).toNat) H) : wpAny (model X.prog X.w) X.A (pyIter (.ref s.heap.objs.size)) (PIE X pins σ tg R) E { s with heap := s.heap.push { cls := .type "range", data := .fields #[.int lo t, .int hi u, .int 1 v] }, toks := tk } := by
  refine wpAny_pyIter_range (IsRange.new ..) (small_one h1 h2 h3 h4) ?_
  have I1 : Inv X pins σ H { s with heap := s.heap.push { cls := .type "range", data := .fields #[.int lo t, .int hi u, .int 1 v] }, toks := tk } := I.kept fun b o e => Heap.get?_push_of_some _ e
  refine ⟨(s.heap.push { cls := .type "range", data := .fields #[.int lo t, .int hi u, .int 1 v] }).objs.size, [(s.heap.push { cls := .type "range", data := .fields #[.int lo t, .int hi u, .int 1 v] }).objs.size], _, _, H, rfl,
    I1.kept (t' := tk) fun b o e => Heap.get?_push_of_some _ e, turn_range _ lo (hi - lo).toNat, ?_, fun b hb => ?_, q⟩
  · have e1 : lo + ((0 : Nat) : Int) * 1 = lo := by simp
    have e2 : (((hi - lo).toNat : Nat) : Int) - ((0 : Nat) : Int) = Builtin.Range.rangeSize lo hi 1 := by rw [rangeSize_one]; split <;> omega
    show IsRangeIter _ _ (lo + ((0 : Nat) : Int) * 1) ((((hi - lo).toNat : Nat) : Int) - ((0 : Nat) : Int)) 1
    rw [e1, e2]
    exact Heap.get?_push_size _ rfl
  · have e : b = (s.heap.push { cls := .type "range", data := .fields #[.int lo t, .int hi u, .int 1 v] }).objs.size := by simpa using hb
    subst e
    exact I1.fpOk (Nat.le_refl _) (I1.hok.fresh (Nat.le_refl _))
def iRng1 (ta : TA) : TI := fun σ H R => ta σ H fun vs H1 => ∃ j : Int, vs = [.int j] ∧ -(2 ^ 62) ≤ j ∧ j < 2 ^ 62 ∧ R (Itr 0 j.toNat) H1
theorem pi_range1 {a : Expr} {ta : TA} {p pos : Pos} (hg : Gl X "range") (hm : X.mg "range" = none) (ha : PA X [a] ta) (hs : starEach [a] X.env = [(false, eval a X.env)] := by rfl) : PI X tg (.Call (.Name "range" p) [a] [] pos) (iRng1 ta) := by
  intro pins s σ H R I h
  refine Call_ (ld_blt I hg hm boot_range (PyProof.Rows.callWith_type1 (thn (ha pos pins s σ H _ I h) fun us s1 ⟨vs, H1, I1, r1, q1⟩ => ?_) hs rfl))
  obtain ⟨j, e, q1, q2, q⟩ := q1
  subst e
  cases r1 with
  | cons r rr =>
    cases rr
    obtain ⟨t, rfl⟩ := r
    exact call_range_1 (range_it I1 (by omega) (by omega) q1 q2 (by simpa using q))
def tFor (wi : TI) (g : TG) (tb : TS) : TS := fun D σ H => wi σ H fun J H1 => ∃ W : Nat → Nat → St → Hp → Prop, (∃ m, W 0 m σ H1) ∧ ∀ i m σ H, W i m σ H →
  (J.stop i H ∧ D.nx σ H) ∨ (J.go i H ∧ ∃ N : St → Hp → Prop, (∀ σ' H', N σ' H' → ∃ m', m' < m ∧ W (i + 1) m' σ' H') ∧ ∀ x H', J.yld i H x H' → g x σ H' fun σ2 H2 => tb { D with nx := N, ct := N, bk := D.nx } σ2 H2)
def pinsAt (fp : List Addr) (h : Heap) : List (Addr × Obj) := fp.filterMap fun b => (h.get? b).map fun o => (b, o)
theorem mem_pinsAt {fp : List Addr} {h : Heap} {b : Addr} {o : Obj} (hb : b ∈ fp) (e : h.get? b = some o) : (b, o) ∈ pinsAt fp h := List.mem_filterMap.mpr ⟨b, hb, by rw [e]; rfl⟩
theorem of_pinsAt {fp : List Addr} {h : Heap} {p : Addr × Obj} (hp : p ∈ pinsAt fp h) : p.1 ∈ fp ∧ h.get? p.1 = some p.2 := by
  obtain ⟨b, hb, e⟩ := List.mem_filterMap.mp hp
  cases q : h.get? b with
  | none => rw [q] at e; cases e
  | some o =>
    rw [q] at e
    have e' : (b, o) = p := Option.some.inj e
    subst e'
    exact ⟨hb, q⟩
theorem Inv.pinned {pins : List (Addr × Obj)} {σ : St} {H : Hp} {s : Shared} {fp : List Addr} (I : Inv X pins σ H s) (hf : ∀ b ∈ fp, FpOk X pins H b) (ho : ∀ b ∈ fp, ∃ o, s.heap.get? b = some o ∧ ∀ v, o.data ≠ .cell v) : Inv X (pins ++ pinsAt fp s.heap) σ H s :=
  I.pins_of fun p hp => (List.mem_append.mp hp).elim (fun z => I.pin p (List.mem_append_right _ z)) fun z => by
    obtain ⟨hb, e⟩ := of_pinsAt z
    obtain ⟨f0, f1, f2, _⟩ := hf p.1 hb
    obtain ⟨o, e', d⟩ := ho p.1 hb
    rw [e] at e'; cases e'
    exact ⟨e, f0, f1, f2, d⟩
theorem Inv.unpinned {pins pl : List (Addr × Obj)} {σ : St} {H : Hp} {s : Shared} (I : Inv X (pins ++ pl) σ H s) : Inv X pins σ H s := I.pins_of fun p hp => I.pin p (List.mem_append_right _ (List.mem_append_left _ hp))
theorem ps_for {iter : Expr} {body : List Stmt} {wi : TI} {g : TG} {tb : TS} {pos : Pos} (hp : PassesOwn (model X.prog X.w) X.A X.env X.xe) (hc : X.calm = true) (hi : PI X tg iter wi) (hg : PG X tg g) (hb : PSs X body tb)
    (hs : ∀ x, foldedSetIterable iter X.env x = pure x := by intro _; rfl) : PS X (.For tg iter body [] pos) (tFor wi g tb) := by
  intro pins s σ H D I h
  refine wpAny_For (thn (hi pins s σ H _ I h) fun v s1 h1 => thn h1 fun itv s2 h2 => ?_) hs
  obtain ⟨it, fp, tn, J, H2, e, I2, T, st2, f2, W, ⟨m0, w0⟩, turn⟩ := h2
  subst e
  -- what stays true of the iterator's objects through the loop
  have stat : ∀ {H' : Hp}, (∀ b ∈ fp, H' b = none) → ∀ b ∈ fp, FpOk X pins H' b := fun hn b hb => ⟨hn b hb, (f2 b hb).2⟩
  refine codeAny_forLoop_any (fun n s' => ∃ i σ' H', Inv X pins σ' H' s' ∧ tn i s'.heap ∧ (∀ b ∈ fp, H' b = none) ∧ W i n σ' H') ?_ m0 ⟨0, σ, H2, I2, st2, fun b hb => (f2 b hb).1, w0⟩
  rintro n s3 ⟨i, σ3, H3, I3, st3, fr3, w3⟩
  rcases turn i n σ3 H3 w3 with ⟨stop, qn⟩ | ⟨go, N, hN, step⟩
  · refine wpAny_passesOwn hp (thn (T.done X rfl rfl rfl hc i pins s3 σ3 H3 X.xe I3 (stat fr3) st3 stop) fun r s4 ⟨hr, I4⟩ => ?_)
    subst hr
    exact wpAny_execs_nil ⟨σ3, H3, I4, qn⟩
  · refine wpAny_passesOwn hp (thn (T.item X rfl rfl rfl hc i pins s3 σ3 H3 X.xe I3 (stat fr3) st3 go) fun r s4 ⟨u, hr, h4⟩ => ?_)
    subst hr
    refine wpAny_passesOwn hp (thn h4 fun _ s5 ⟨x, H5, I5, r5, y5, st5, fr5⟩ => ?_)
    have I5' := I5.pinned (stat fr5) (T.obj _ _ st5)
    refine wpAny_passesOwn hp (thn (hg _ s5 σ3 H5 x u _ I5' r5 (step x H5 y5)) fun _ s6 ⟨σ6, H6, I6, q6⟩ => ?_)
    refine wpAny_passesOwn hp (thn (hb _ s6 σ6 H6 _ I6 q6) fun f s7 q7 => ?_)
    have again : ∀ {σ7 : St} {H7 : Hp}, Inv X (pins ++ pinsAt fp s5.heap) σ7 H7 s7 → N σ7 H7 → ∃ m, m < n ∧ ∃ i σ' H', Inv X pins σ' H' s7 ∧ tn i s7.heap ∧ (∀ b ∈ fp, H' b = none) ∧ W i m σ' H' := fun {σ7 H7} I7 n7 => by
      obtain ⟨m', hm, w7⟩ := hN σ7 H7 n7
      refine ⟨m', hm, i + 1, σ7, H7, I7.unpinned, T.keep _ _ _ st5 fun b hb o e => (I7.pin (b, o) (List.mem_append_right _ (List.mem_append_right _ (mem_pinsAt hb e)))).1, fun b hb => ?_, w7⟩
      obtain ⟨o, e, d⟩ := T.obj _ _ st5 b hb
      exact (I7.pin (b, o) (List.mem_append_right _ (List.mem_append_right _ (mem_pinsAt hb e)))).2.1
    cases f with
    | next => obtain ⟨σ7, H7, I7, n7⟩ := q7; exact again I7 n7
    | cont => obtain ⟨σ7, H7, I7, n7⟩ := q7; exact again I7 n7
    | brk => obtain ⟨σ7, H7, I7, q7⟩ := q7; exact ⟨σ7, H7, I7.unpinned, q7⟩
    | ret v => obtain ⟨x7, σ7, H7, I7, r7, q7⟩ := q7; exact ⟨x7, σ7, H7, I7.unpinned, r7, q7⟩
end
theorem for_list {K : PySem.W.Frag} {a : Addr} {xs : List V} {g : TG} {tb : TS} {D : Ends} {σ : St} {H : Hp} (Pv : Nat → St → Hp → Prop) (h0 : Pv 0 σ H) (hl : ∀ i σ H, i ≤ xs.length → Pv i σ H → SqL K H a xs)
    (hs : ∀ i x σ H, xs[i]? = some x → Pv i σ H → g x σ H fun σ2 H2 => tb { D with nx := Pv (i + 1), ct := Pv (i + 1), bk := D.nx } σ2 H2) (hd : ∀ σ H, Pv xs.length σ H → D.nx σ H) :
    ∃ W : Nat → Nat → St → Hp → Prop, (∃ m, W 0 m σ H) ∧ ∀ i m σ H, W i m σ H →
      ((Itl K a).stop i H ∧ D.nx σ H) ∨ ((Itl K a).go i H ∧ ∃ N : St → Hp → Prop, (∀ σ' H', N σ' H' → ∃ m', m' < m ∧ W (i + 1) m' σ' H') ∧ ∀ x H', (Itl K a).yld i H x H' → g x σ H' fun σ2 H2 => tb { D with nx := N, ct := N, bk := D.nx } σ2 H2) := by
  refine ⟨fun i m σ H => m = xs.length - i ∧ i ≤ xs.length ∧ Pv i σ H, ⟨xs.length, by simp, Nat.zero_le _, h0⟩, ?_⟩
  rintro i m σ H ⟨rfl, hi, p⟩
  have q := hl i σ H hi p
  by_cases hlt : i < xs.length
  · refine .inr ⟨⟨xs, xs[i], q, by simp [hlt]⟩, Pv (i + 1), fun σ' H' p' => ⟨xs.length - (i + 1), by omega, rfl, hlt, p'⟩, fun x H' y => ?_⟩
    obtain ⟨e, y⟩ := y
    subst e
    exact hs i x σ _ (y xs q) p
  · have e : i = xs.length := by omega
    subst e
    exact .inl ⟨⟨xs, q, Nat.le_refl _⟩, hd σ H p⟩
theorem for_range {lo : Int} {n : Nat} {g : TG} {tb : TS} {D : Ends} {σ : St} {H : Hp} (Pv : Nat → St → Hp → Prop) (h0 : Pv 0 σ H)
    (hs : ∀ i σ H, i < n → Pv i σ H → g (.int (lo + i)) σ H fun σ2 H2 => tb { D with nx := Pv (i + 1), ct := Pv (i + 1), bk := D.nx } σ2 H2) (hd : ∀ σ H, Pv n σ H → D.nx σ H) :
    ∃ W : Nat → Nat → St → Hp → Prop, (∃ m, W 0 m σ H) ∧ ∀ i m σ H, W i m σ H →
      ((Itr lo n).stop i H ∧ D.nx σ H) ∨ ((Itr lo n).go i H ∧ ∃ N : St → Hp → Prop, (∀ σ' H', N σ' H' → ∃ m', m' < m ∧ W (i + 1) m' σ' H') ∧ ∀ x H', (Itr lo n).yld i H x H' → g x σ H' fun σ2 H2 => tb { D with nx := N, ct := N, bk := D.nx } σ2 H2) := by
  refine ⟨fun i m σ H => m = n - i ∧ i ≤ n ∧ Pv i σ H, ⟨n, by simp, Nat.zero_le _, h0⟩, ?_⟩
  rintro i m σ H ⟨rfl, hi, p⟩
  by_cases hlt : i < n
  · refine .inr ⟨hlt, Pv (i + 1), fun σ' H' p' => ⟨n - (i + 1), by omega, rfl, hlt, p'⟩, fun x H' y => ?_⟩
    obtain ⟨e, y⟩ := y
    subst e y
    exact hs i σ _ hlt p
  · have e : i = n := by omega
    subst e
    exact .inl ⟨Nat.le_refl _, hd σ H p⟩
end L2
namespace L2
open PySem PySem.Spec PyProof.Rows
abbrev R2 := V → V → Hp → VK → Prop
def OpR (X : Cx) (f : Value → Value → Sem Value) (r : R2) : Prop :=
  ∀ (pins : List (Addr × Obj)) (s : Shared) (σ : St) (H : Hp) (x y : V) (v u : Value) (Q : VK), Inv X pins σ H s → RelV x v → RelV y u → r x y H Q →
    wpAny (model X.prog X.w) X.A (f v u) (EP X pins σ Q) X.xe s
def UnR (X : Cx) (f : Value → Sem Value) (r : V → Hp → VK → Prop) : Prop :=
  ∀ (pins : List (Addr × Obj)) (s : Shared) (σ : St) (H : Hp) (x : V) (v : Value) (Q : VK), Inv X pins σ H s → RelV x v → r x H Q →
    wpAny (model X.prog X.w) X.A (f v) (EP X pins σ Q) X.xe s
def CallR (X : Cx) (f : Value) (r : List V → Hp → VK → Prop) : Prop :=
  ∀ (pins : List (Addr × Obj)) (s : Shared) (σ : St) (H : Hp) (xs : List V) (us : List Value) (Q : VK), Inv X pins σ H s → Vals xs us → r xs H Q →
    wpAny (model X.prog X.w) X.A (call f us) (EP X pins σ Q) X.xe s
def tOp (r : R2) (ta tb : TE) : TE := fun σ H Q => ta σ H fun x H1 => tb σ H1 fun y H2 => r x y H2 Q
def tUn (r : V → Hp → VK → Prop) (ta : TE) : TE := fun σ H Q => ta σ H fun x H1 => r x H1 Q
def rI (C : Int → Int → Prop) (g : Int → Int → V) : R2 := fun x y H Q => ∃ i j, x = .int i ∧ y = .int j ∧ C i j ∧ Q (g i j) H
def rI0 (g : Int → Int → V) : R2 := fun x y H Q => ∃ i j, x = .int i ∧ y = .int j ∧ Q (g i j) H
def rU (g : Int → V) : V → Hp → VK → Prop := fun x H Q => ∃ i, x = .int i ∧ Q (g i) H
section
variable {X : Cx} {a b c : Expr} {ta tb tc : TE} {pos : Pos}
theorem binT (ha : PE X a ta) (hb : PE X b tb) {pins : List (Addr × Obj)} {s : Shared} {σ : St} {H : Hp} {R : V → V → Hp → Prop} (I : Inv X pins σ H s)
    (h : ta σ H fun x H1 => tb σ H1 fun y H2 => R x y H2) {Q : Value → Shared → Prop} {f : Value → Value → Sem Value}
    (hf : ∀ v u s2 x y H2, Inv X pins σ H2 s2 → RelV x v → RelV y u → R x y H2 → wpAny (model X.prog X.w) X.A (f v u) Q X.xe s2) :
    wpAny (model X.prog X.w) X.A (eval a X.env) (fun v s₁ => wpAny (model X.prog X.w) X.A (eval b X.env) (fun u s₂ => wpAny (model X.prog X.w) X.A (f v u) Q X.xe s₂) X.xe s₁) X.xe s := by
  refine thn (ha pins s σ H _ I h) fun v s1 ⟨x, H1, I1, r1, q1⟩ => ?_
  refine thn (hb pins s1 σ H1 _ I1 q1) fun u s2 ⟨y, H2, I2, r2, q2⟩ => ?_
  exact hf v u s2 x y H2 I2 r1 r2 q2
theorem pe_op {op : Operator} {r : R2} (ho : OpR X (binaryOp op) r) (ha : PE X a ta) (hb : PE X b tb) : PE X (.BinOp a op b pos) (tOp r ta tb) := by
  intro pins s σ H Q I h
  exact wpAny_BinOp (binT ha hb I h fun v u s2 x y H2 I2 rx ry q => ho pins s2 σ H2 x y v u Q I2 rx ry q)
theorem pe_un {op : UnaryOp} {r : V → Hp → VK → Prop} (ho : UnR X (unaryOp op) r) (ha : PE X a ta) : PE X (.UnaryOp op a pos) (tUn r ta) := by
  intro pins s σ H Q I h
  exact UnaryOp_ (thn (ha pins s σ H _ I h) fun v s1 ⟨x, H1, I1, r1, q1⟩ => ho pins s1 σ H1 x v Q I1 r1 q1)
theorem opI {f : Value → Value → Sem Value} {C : Int → Int → Prop} {g : Int → Int → Int}
    (rule : ∀ (i j : Int) (t u : Tok) (s : Shared) (Q : Value → Shared → Prop) (E : Value → Shared → Prop), C i j → Q (.int (g i j) s.toks) { s with toks := s.toks + 1 } → wpAny (model X.prog X.w) X.A (f (.int i t) (.int j u)) Q E s) :
    OpR X f (rI C fun i j => .int (g i j)) := by
  intro pins s σ H x y v u Q I rx ry h
  obtain ⟨i, j, rfl, rfl, hc, q⟩ := h
  obtain ⟨t, rfl⟩ := rx
  obtain ⟨t', rfl⟩ := ry
  exact rule i j t t' s _ _ hc ⟨.int (g i j), H, I.tok _, ⟨_, rfl⟩, q⟩
theorem opI0 {f : Value → Value → Sem Value} {g : Int → Int → Int}
    (rule : ∀ (i j : Int) (t u : Tok) (s : Shared) (Q : Value → Shared → Prop) (E : Value → Shared → Prop), Q (.int (g i j) s.toks) { s with toks := s.toks + 1 } → wpAny (model X.prog X.w) X.A (f (.int i t) (.int j u)) Q E s) :
    OpR X f (rI0 fun i j => .int (g i j)) := by
  intro pins s σ H x y v u Q I rx ry h
  obtain ⟨i, j, rfl, rfl, q⟩ := h
  obtain ⟨t, rfl⟩ := rx
  obtain ⟨t', rfl⟩ := ry
  exact rule i j t t' s _ _ ⟨.int (g i j), H, I.tok _, ⟨_, rfl⟩, q⟩
theorem opB0 {f : Value → Value → Sem Value} {g : Int → Int → Bool}
    (rule : ∀ (i j : Int) (t u : Tok) (s : Shared) (Q : Value → Shared → Prop) (E : Value → Shared → Prop), Q (.bool (g i j)) s → wpAny (model X.prog X.w) X.A (f (.int i t) (.int j u)) Q E s) :
    OpR X f (rI0 fun i j => .bl (g i j)) := by
  intro pins s σ H x y v u Q I rx ry h
  obtain ⟨i, j, rfl, rfl, q⟩ := h
  obtain ⟨t, rfl⟩ := rx
  obtain ⟨t', rfl⟩ := ry
  exact rule i j t t' s _ _ ⟨.bl (g i j), H, I, rfl, q⟩
def CDiv (i j : Int) : Prop := 0 < j ∧ j < 1073741824
def CMul (i j : Int) : Prop := (-(2 ^ 64) < i ∧ i < 2 ^ 64) ∨ (-(2 ^ 64) < j ∧ j < 2 ^ 64)
theorem CMul.ok {i j : Int} (h : CMul i j) : IntMulOk i j := by
  rcases h with ⟨h1, h2⟩ | ⟨h1, h2⟩
  · exact .of_left (intBits_le_64 h1 h2)
  · exact .of_right (intBits_le_64 h1 h2)
theorem op_add : OpR X (binaryOp .Add) (rI0 fun i j => .int (i + j)) := opI0 fun _ _ _ _ _ _ _ q => add_int q
theorem op_sub : OpR X (binaryOp .Sub) (rI0 fun i j => .int (i - j)) := opI0 fun _ _ _ _ _ _ _ q => sub_int q
theorem op_mul : OpR X (binaryOp .Mult) (rI CMul fun i j => .int (i * j)) := opI fun _ _ _ _ _ _ _ hc q => mul_int q hc.ok
theorem op_fdiv : OpR X (binaryOp .FloorDiv) (rI CDiv fun i j => .int (i / j)) := opI fun i j _ _ _ _ _ hc q => by
  have h1 : (0 : Int) < j := hc.1
  have h2 : j < 1073741824 := hc.2
  exact floordiv_int (by omega) (by rw [Int.fdiv_eq_ediv_of_nonneg i (by omega)]; exact q) (.inl (PyProof.noPylong_small (by omega)))
theorem op_mod : OpR X (binaryOp .Mod) (rI (fun _ j => 0 < j) fun i j => .int (i % j)) := opI fun i j _ _ _ _ _ hc q => by
  have h1 : (0 : Int) < j := hc
  exact mod_int' (by omega) (by rw [Int.fmod_eq_emod_of_nonneg i (by omega)]; exact q)
theorem iop_mul : OpR X (inplaceOp .Mult) (rI CMul fun i j => .int (i * j)) := opI fun _ _ _ _ _ _ _ hc q => imul_int q hc.ok
theorem unI {f : Value → Sem Value} {g : Int → Int}
    (rule : ∀ (i : Int) (t : Tok) (s : Shared) (Q : Value → Shared → Prop) (E : Value → Shared → Prop), Q (.int (g i) s.toks) { s with toks := s.toks + 1 } → wpAny (model X.prog X.w) X.A (f (.int i t)) Q E s) :
    UnR X f (rU fun i => .int (g i)) := by
  intro pins s σ H x v Q I rx h
  obtain ⟨i, rfl, q⟩ := h
  obtain ⟨t, rfl⟩ := rx
  exact rule i t s _ _ ⟨.int (g i), H, I.tok _, ⟨_, rfl⟩, q⟩
theorem un_neg : UnR X (unaryOp .USub) (rU fun i => .int (-i)) := unI fun _ _ _ _ _ q => neg_int q
end
def scal : V → V → Bool
  | .non, .non => true | .non, .int _ => true | .int _, .non => true | .non, .bl _ => true | .bl _, .non => true | .non, .str _ => true | .str _, .non => true
  | .int _, .int _ => true | .bl _, .bl _ => true | .str _, .str _ => true | .byt _, .byt _ => true
  | .int _, .str _ => true | .str _, .int _ => true | .bl _, .str _ => true | .str _, .bl _ => true
  | _, _ => false
def rEq : R2 := fun x y H Q => scal x y = true ∧ Q (.bl (decide (x = y))) H
def rNe : R2 := fun x y H Q => scal x y = true ∧ Q (.bl (!decide (x = y))) H
theorem dec_int {i j : Int} : decide (V.int i = V.int j) = (i == j) := by
  rw [Bool.eq_iff_iff]
  simp
theorem dec_bl {i j : Bool} : decide (V.bl i = V.bl j) = (i == j) := by
  rw [Bool.eq_iff_iff]
  simp
theorem dec_str {i j : Str} : decide (V.str i = V.str j) = (i == j) := by
  rw [Bool.eq_iff_iff]
  simp
theorem dec_byt {i j : Array UInt8} : decide (V.byt i = V.byt j) = (i.toList == j.toList) := by
  rw [Bool.eq_iff_iff]
  cases i
  cases j
  simp
section
variable {X : Cx} {a b c : Expr} {ta tb tc : TE} {pos : Pos}
theorem fin_bl {pins : List (Addr × Obj)} {σ : St} {H : Hp} {s : Shared} {Q : VK} {k k' : Bool} (I : Inv X pins σ H s) (q : Q (.bl k) H) (e : k = k') : EP X pins σ Q (.bool k') s := by
  subst e
  exact ⟨.bl k, H, I, rfl, q⟩
theorem op_eq : OpR X (compareOp .Eq) rEq := by
  intro pins s σ H x y v u Q I rx ry h
  obtain ⟨hs, q⟩ := h
  cases x with
  | non =>
    cases rx
    cases y with
    | non => cases ry; exact PySem.EqNone.eq_none_none (fin_bl I q (by simp))
    | bl j => cases ry; exact PySem.EqNone.eq_none_bool (fin_bl I q (by simp))
    | int j => obtain ⟨t', rfl⟩ := ry; exact PySem.EqNone.eq_none_int (fin_bl I q (by simp))
    | str j => obtain ⟨t', rfl⟩ := ry; exact PySem.EqNone.eq_none_str (fin_bl I q (by simp))
    | _ => exact absurd (show false = true from hs) Bool.false_ne_true
  | bl i =>
    cases rx
    cases y with
    | non => cases ry; exact PySem.EqNone.eq_bool_none (fin_bl I q (by simp))
    | bl j => cases ry; exact eq_bool (fin_bl I q dec_bl)
    | str j => obtain ⟨t', rfl⟩ := ry; exact PySem.EqMixed.eq_bool_str (fin_bl I q (by simp))
    | _ => exact absurd (show false = true from hs) Bool.false_ne_true
  | int i =>
    obtain ⟨t, rfl⟩ := rx
    cases y with
    | non => cases ry; exact PySem.EqNone.eq_int_none (fin_bl I q (by simp))
    | int j => obtain ⟨t', rfl⟩ := ry; exact eq_int (fin_bl I q dec_int)
    | str j => obtain ⟨t', rfl⟩ := ry; exact PySem.EqMixed.eq_int_str (fin_bl I q (by simp))
    | _ => exact absurd (show false = true from hs) Bool.false_ne_true
  | str i =>
    obtain ⟨t, rfl⟩ := rx
    cases y with
    | non => cases ry; exact PySem.EqNone.eq_str_none (fin_bl I q (by simp))
    | bl j => cases ry; exact PySem.EqMixed.eq_str_bool (fin_bl I q (by simp))
    | int j => obtain ⟨t', rfl⟩ := ry; exact PySem.EqMixed.eq_str_int (fin_bl I q (by simp))
    | str j => obtain ⟨t', rfl⟩ := ry; exact eq_str (fin_bl I q dec_str)
    | _ => exact absurd (show false = true from hs) Bool.false_ne_true
  | byt i =>
    obtain ⟨t, rfl⟩ := rx
    cases y with
    | byt j => obtain ⟨t', rfl⟩ := ry; exact PySem.W.eq_bytes (fin_bl I q dec_byt)
    | _ => exact absurd (show false = true from hs) Bool.false_ne_true
  | _ => cases y <;> exact absurd (show false = true from hs) Bool.false_ne_true
theorem op_ne : OpR X (compareOp .NotEq) rNe := by
  intro pins s σ H x y v u Q I rx ry h
  obtain ⟨hs, q⟩ := h
  cases x with
  | non =>
    cases rx
    cases y with
    | non => cases ry; exact PySem.EqNone.ne_none_none (fin_bl I q (by simp))
    | bl j => cases ry; exact PySem.EqNone.ne_none_bool (fin_bl I q (by simp))
    | int j => obtain ⟨t', rfl⟩ := ry; exact PySem.EqNone.ne_none_int (fin_bl I q (by simp))
    | str j => obtain ⟨t', rfl⟩ := ry; exact PySem.EqNone.ne_none_str (fin_bl I q (by simp))
    | _ => exact absurd (show false = true from hs) Bool.false_ne_true
  | bl i =>
    cases rx
    cases y with
    | non => cases ry; exact PySem.EqNone.ne_bool_none (fin_bl I q (by simp))
    | bl j => cases ry; exact ne_bool (fin_bl I q (congrArg not dec_bl))
    | str j => obtain ⟨t', rfl⟩ := ry; exact PySem.EqMixed.ne_bool_str (fin_bl I q (by simp))
    | _ => exact absurd (show false = true from hs) Bool.false_ne_true
  | int i =>
    obtain ⟨t, rfl⟩ := rx
    cases y with
    | non => cases ry; exact PySem.EqNone.ne_int_none (fin_bl I q (by simp))
    | int j => obtain ⟨t', rfl⟩ := ry; exact ne_int (fin_bl I q (congrArg not dec_int))
    | str j => obtain ⟨t', rfl⟩ := ry; exact PySem.EqMixed.ne_int_str (fin_bl I q (by simp))
    | _ => exact absurd (show false = true from hs) Bool.false_ne_true
  | str i =>
    obtain ⟨t, rfl⟩ := rx
    cases y with
    | non => cases ry; exact PySem.EqNone.ne_str_none (fin_bl I q (by simp))
    | bl j => cases ry; exact PySem.EqMixed.ne_str_bool (fin_bl I q (by simp))
    | int j => obtain ⟨t', rfl⟩ := ry; exact PySem.EqMixed.ne_str_int (fin_bl I q (by simp))
    | str j => obtain ⟨t', rfl⟩ := ry; exact ne_str (fin_bl I q (congrArg not dec_str))
    | _ => exact absurd (show false = true from hs) Bool.false_ne_true
  | byt i =>
    obtain ⟨t, rfl⟩ := rx
    cases y with
    | byt j => obtain ⟨t', rfl⟩ := ry; exact PySem.W.ne_bytes (fin_bl I q (congrArg not dec_byt))
    | _ => exact absurd (show false = true from hs) Bool.false_ne_true
  | _ => cases y <;> exact absurd (show false = true from hs) Bool.false_ne_true
theorem op_lt : OpR X (compareOp .Lt) (rI0 fun i j => .bl (decide (i < j))) := opB0 fun _ _ _ _ _ _ _ q => lt_int q
theorem op_le : OpR X (compareOp .LtE) (rI0 fun i j => .bl (decide (i ≤ j))) := opB0 fun _ _ _ _ _ _ _ q => le_int q
theorem op_gt : OpR X (compareOp .Gt) (rI0 fun i j => .bl (decide (j < i))) := opB0 fun _ _ _ _ _ _ _ q => gt_int q
theorem op_ge : OpR X (compareOp .GtE) (rI0 fun i j => .bl (decide (j ≤ i))) := opB0 fun _ _ _ _ _ _ _ q => ge_int q
theorem nomark (b : Expr) {op : CmpOp} (h : op ≠ .In := by decide) (h2 : op ≠ .NotIn := by decide) : behindInMarks op b = false := by
  have e1 : (op == CmpOp.In) = false := by cases op <;> first | rfl | exact absurd rfl h
  have e2 : (op == CmpOp.NotIn) = false := by cases op <;> first | rfl | exact absurd rfl h2
  cases b <;> simp [behindInMarks, e1, e2]
theorem pe_cmpR {op : CmpOp} {r : R2} (ho : OpR X (compareOp op) r) (ha : PE X a ta) (hb : PE X b tb) (hm : behindInMarks op b = false) : PE X (.Compare a [op] [b] pos) (tOp r ta tb) := by
  intro pins s σ H Q I h
  exact wpAny_Compare1 (binT ha hb I h fun v u s2 x y H2 I2 rx ry q => ho pins s2 σ H2 x y v u Q I2 rx ry q) hm
def tTest (t : TE) : TT := fun σ H Q => t σ H fun x H' => ∃ k, x = .bl k ∧ Q k H'
theorem pt_cmpR {op : CmpOp} {r : R2} (ho : OpR X (compareOp op) r) (ha : PE X a ta) (hb : PE X b tb) (hm : behindInMarks op b = false) : PT X (.Compare a [op] [b] pos) (tTest (tOp r ta tb)) := by
  intro pins s σ H Q I h
  refine wpAny_isTrue_Compare1 (thn (ha pins s σ H _ I h) fun v s1 ⟨x, H1, I1, r1, q1⟩ => thn (hb pins s1 σ H1 _ I1 q1) fun u s2 ⟨y, H2, I2, r2, q2⟩ =>
    thn (ho pins s2 σ H2 x y v u _ I2 r1 r2 q2) fun c s3 ⟨z, H3, I3, r3, k, e, q3⟩ => ?_) hm
  subst e
  cases r3
  exact wpAny_truthy_bool ⟨H3, I3, q3⟩
def tChain (r r' : R2) (ta tb tc : TE) : TE := fun σ H Q => ta σ H fun x H1 => tb σ H1 fun y H2 => r x y H2 fun z H3 => ∃ k, z = .bl k ∧
  (if k = true then tc σ H3 fun w' H4 => r' y w' H4 Q else Q (.bl false) H3)
theorem pe_chain {op op' : CmpOp} {r r' : R2} (ho : OpR X (compareOp op) r) (ho' : OpR X (compareOp op') r') (ha : PE X a ta) (hb : PE X b tb) (hc : PE X c tc)
    (hm : lastMarks [op, op'] [b, c] = false := by with_unfolding_all rfl) : PE X (.Compare a [op, op'] [b, c] pos) (tChain r r' ta tb tc) := by
  intro pins s σ H Q I h
  refine Compare_chain (thn (ha pins s σ H _ I h) fun v s1 ⟨x, H1, I1, r1, q1⟩ => chain_link (thn (hb pins s1 σ H1 _ I1 q1) fun u s2 ⟨y, H2, I2, r2, q2⟩ =>
    thn (ho pins s2 σ H2 x y v u _ I2 r1 r2 q2) fun d s3 ⟨z, H3, I3, r3, k, e, q3⟩ => ?_)) hm
  subst e
  cases r3
  refine wpAny_truthy_bool ?_
  cases k with
  | false => exact ite_ff ⟨.bl false, H3, I3, rfl, q3⟩
  | true => exact ite_tt (chain_last (thn (hc pins s3 σ H3 _ I3 q3) fun w' s4 ⟨z', H4, I4, r4, q4⟩ => ho' pins s4 σ H4 y z' u w' Q I4 r2 r4 q4))
theorem line63 : (sizeLine : Nat) < 2 ^ 63 := by rw [sizeLine_eq]; decide
theorem vals1 {x : V} {us : List Value} (r : Vals [x] us) : ∃ u, us = [u] ∧ RelV x u := by
  cases r with
  | cons r1 r2 => cases r2; exact ⟨_, rfl, r1⟩
end
end L2
namespace L2
open PySem PySem.Spec PyProof.Rows
structure ObjM (h : Heap) (x dx C : Addr) (mA : Str → Option Value) : Prop where
  obj : h.get? x = some (PySem.W.instObj C dx)
  ns : h.Ns1 dx mA
  ne : dx ≠ x
theorem lookIn_ns {h : Heap} {dx : Addr} {mA : Str → Option Value} (n : h.Ns1 dx mA) : ∃ od, h.get? dx = some od ∧ ∀ name, PySem.W.lookIn name od = some (mA name) := by
  obtain ⟨o, es, ep, ho, hd, hk, _, hm⟩ := n
  refine ⟨o, ho, fun name => ?_⟩
  have e := hm name
  unfold nsFind findBy at e
  rw [← Array.find?_toList] at e
  unfold PySem.W.lookIn
  rw [hd]
  dsimp only
  split
  · rename_i y q
    rw [q] at e
    exact congrArg some e
  · rename_i q
    rw [q] at e
    have a : es.toList.any (·.refKey) = false := by
      rw [List.any_eq_false]
      intro y hy
      obtain ⟨z, t, hkey⟩ := hk y (Array.mem_toList_iff.mp hy)
      simp [DictEntry.refKey, hkey]
    have a' : ¬ es.toList.any (·.refKey) = true := by rw [a]; exact Bool.false_ne_true
    rw [if_neg a']
    exact congrArg some e
theorem ObjM.look {h : Heap} {x dx C : Addr} {mA : Str → Option Value} (I : ObjM h x dx C mA) : ∃ od, PySem.W.InstAt h x (PySem.W.instObj C dx) C (some od) ∧ ∀ name, PySem.W.lookIn name od = some (mA name) :=
  let ⟨od, ho, hl⟩ := lookIn_ns I.ns
  ⟨od, ⟨I.obj, rfl, rfl, ho⟩, hl⟩
section
variable {prog : Program} {w : World} {A : Around} {E : Value → Shared → Prop} {s : Shared} {K : PySem.W.Frag} {x dx C f : Addr} {mA : Str → Option Value} {name : Str} {v : Value}
theorem get_map {expr : Bool} {Q : Value → Shared → Prop} (X : K.In s.heap) (I : ObjM s.heap x dx C mA) (hg : PySem.W.plainGet K C name = true) (hh : PySem.W.hasDictIn K C = true)
    (ha : PySem.W.findIn K (.ref C) name = some none) (hv : mA name = some v) (hv' : PySem.W.handedIn v = true) (h : Q v { s with toks := s.toks + 1 }) :
    wpAny (model prog w) A (getAttr (.ref x) name expr) Q E s := by
  obtain ⟨od, J, hl⟩ := I.look
  exact PySem.W.get_value X J (PySem.W.plainGet_of hg).1 (PySem.W.findObj_own hh ha rfl (by rw [hl, hv])) hv' h
theorem get_meth {pl : Sem Bool} {Q : Value × List Value → Shared → Prop} (X : K.In s.heap) (I : ObjM s.heap x dx C mA) (hg : PySem.W.plainGet K C name = true)
    (hf : PySem.W.findIn K (.ref C) name = some (some (.ref f))) (ht : PySem.W.isFn K (.ref f) = true) (hv : mA name = none) (h : Q (.ref f, [.ref x]) s) :
    wpAny (model prog w) A (getMethod (.ref x) name pl) Q E s := by
  obtain ⟨od, J, hl⟩ := I.look
  exact PySem.W.method_fn X J (PySem.W.plainGet_of hg).1 (PySem.W.plainGet_of hg).2 hf (beq_iff_eq.mp ht) (by show (PySem.W.lookIn name od).map (·.isSome) = some false; rw [hl, hv]; rfl) h
theorem set_map {ns : List Str} {Q : Unit → Shared → Prop} (X : K.In s.heap) (I : ObjM s.heap x dx C mA)
    (hs : PySem.W.findIn K (.ref C) "__setattr__" = some (some (.builtin "object.__setattr__"))) (hp : PySem.W.plainOver K C = true) (ht : PySem.W.takerIn K C name = some none) (hh : PySem.W.hasDictIn K C = true)
    (hw : PySem.Within mA ns) (hsz : ns.length ≤ sizeLine)
    (h : ∀ h', ObjM h' x dx C (fun y => if y = name then some v else mA y) → Heap.SameBut dx s.heap h' → Q () { s with heap := h', toks := s.toks + 2 }) :
    wpAny (model prog w) A (setAttr (.ref x) name v) Q E s := by
  obtain ⟨od, J, hl⟩ := I.look
  refine PySem.W.set_plain X J hs (PySem.W.osa_open (s := { s with toks := s.toks + 1 }) (r := none) X J hp ht fun b => ?_)
  obtain ⟨cd, hc, hd'⟩ := PySem.W.any_some hh
  have hx : s.heap.get? x = some ⟨.ref C, some dx, .plain, #[]⟩ := I.obj
  refine wpAny_bind (wpAny_pure (wpAny_bind (wpAny_bind (wpAny_loadPart hx (wpAny_bind (PySem.W.Looks.here (s := { s with toks := s.toks + 1 }) (PySem.W.looks_clsIn X hc) ?_))))))
  rw [hd']
  refine wpAny_pure (a := some dx) (wpAny_bind (wpAny_pure (wpAny_bind ?_)))
  refine wpAny_nsSet1 (s := { s with toks := s.toks + 1 }) I.ns fun h' hn2 hs2 => ?_
  obtain ⟨oD, esD, epD, hoD, hdD, hcD⟩ := hn2.count (PySem.Within.cons name v hw)
  refine wpAny_bind (wpAny_lookBehind hoD (by rw [hdD]; exact pastItsLine_dict (Nat.le_trans hcD (by rw [List.length_cons]; omega))) ?_)
  exact wpAny_pure (h _ ⟨(hs2.2 _ (Ne.symm I.ne)).trans I.obj, hn2, I.ne⟩ hs2)
theorem make_map {R : Result → Shared → Prop} {vs : List Value} {kw : List (Str × Value)} (X : K.In s.heap) (hm : PySem.W.makesIn K C = true)
    (hi : PySem.W.findIn K (.ref C) "__init__" = some (some (.ref f))) (hf : PySem.W.typeIn K (.ref f) = some (.type "function"))
    (h : codeAny (model prog w) (A.under (.builtin "type.__call__" ⟨.ref C :: vs, kw⟩)) (.call (.ref f) ⟨.ref (s.heap.objs.size + 1) :: vs, kw⟩) (PySem.W.InitBack (s.heap.objs.size + 1) R)
      { s with heap := (s.heap.push PySem.W.emptyDict).push (PySem.W.instObj C s.heap.objs.size) }) :
    codeAny (model prog w) A (.call (.ref C) ⟨vs, kw⟩) R s := by
  obtain ⟨hh, g, d, t, os⟩ := s
  exact PySem.W.make_core (PySem.W.makes_of X hm) (PySem.W.looks_findIn X hi) (fun self => PySem.W.bind_fn X self hf) (.inl rfl) h
end
def putF (f : Str) (v : V) : List (Str × V) → List (Str × V)
  | [] => [(f, v)]
  | (g, x) :: r => if g = f then (g, v) :: r else (g, x) :: putF f v r
theorem lookup_putF (f g : Str) (v : V) : ∀ fs : List (Str × V), (putF f v fs).lookup g = if g = f then some v else fs.lookup g
  | [] => by
    show List.lookup g [(f, v)] = _
    by_cases h : g = f
    · have hb : (g == f) = true := beq_iff_eq.mpr h
      simp only [List.lookup, hb, if_pos h]
    · have hb : (g == f) = false := beq_eq_false_iff_ne.mpr h
      simp only [List.lookup, hb, if_neg h]
  | (k, x) :: r => by
    have ih := lookup_putF f g v r
    rw [show putF f v ((k, x) :: r) = (if k = f then (k, v) :: r else (k, x) :: putF f v r) from rfl]
    by_cases hk : k = f
    · rw [if_pos hk]
      by_cases h : g = k
      · have hb : (g == k) = true := beq_iff_eq.mpr h
        simp only [List.lookup, hb, if_pos (h.trans hk)]
      · have hb : (g == k) = false := beq_eq_false_iff_ne.mpr h
        simp only [List.lookup, hb, if_neg (fun e : g = f => h (e.trans hk.symm))]
    · rw [if_neg hk]
      by_cases h : g = k
      · have hb : (g == k) = true := beq_iff_eq.mpr h
        simp only [List.lookup, hb, if_neg (fun e : g = f => hk (h.symm.trans e))]
      · have hb : (g == k) = false := beq_eq_false_iff_ne.mpr h
        simp only [List.lookup, hb]
        exact ih
theorem keys_putF (f : Str) (v : V) : ∀ fs : List (Str × V), f ∈ (putF f v fs).map (·.1) ∧ ∀ g, g ∈ fs.map (·.1) → g ∈ (putF f v fs).map (·.1)
  | [] => ⟨by simp [putF], fun g h => by simp at h⟩
  | (k, x) :: r => by
    obtain ⟨i1, i2⟩ := keys_putF f v r
    rw [show putF f v ((k, x) :: r) = (if k = f then (k, v) :: r else (k, x) :: putF f v r) from rfl]
    by_cases hk : k = f
    · rw [if_pos hk]
      subst hk
      exact ⟨by simp, fun g h => by simpa using h⟩
    · rw [if_neg hk]
      refine ⟨?_, fun g h => ?_⟩
      · rw [List.map_cons]
        exact List.mem_cons_of_mem _ i1
      · rw [List.map_cons] at h ⊢
        rcases List.mem_cons.mp h with e | e
        · exact List.mem_cons.mpr (.inl e)
        · exact List.mem_cons_of_mem _ (i2 g e)
theorem length_putF (f : Str) (v : V) : ∀ fs : List (Str × V), (putF f v fs).length ≤ fs.length + 1
  | [] => by simp [putF]
  | (k, x) :: r => by
    have ih := length_putF f v r
    rw [show putF f v ((k, x) :: r) = (if k = f then (k, v) :: r else (k, x) :: putF f v r) from rfl]
    by_cases hk : k = f
    · rw [if_pos hk, List.length_cons, List.length_cons]; omega
    · rw [if_neg hk, List.length_cons, List.length_cons]; omega
theorem RelO.some_of {v : V} {o : Option Value} (r : RelO (some v) o) : ∃ u, o = some u ∧ RelV v u := by
  cases o with
  | none => exact (show False from r).elim
  | some u => exact ⟨u, rfl, r⟩
theorem RelO.none_of {o : Option Value} (r : RelO none o) : o = none := by
  cases o with
  | none => rfl
  | some u => exact (show False from r).elim
theorem handed_of {v : V} {u : Value} (r : RelV v u) : PySem.W.handedIn u = true := by
  cases v with
  | non => cases (show u = Value.none from r); rfl
  | bl b => cases (show u = Value.bool b from r); rfl
  | int i => obtain ⟨t, e⟩ := (show ∃ t, u = Value.int i t from r); cases e; rfl
  | str x => obtain ⟨t, e⟩ := (show ∃ t, u = Value.str x t from r); cases e; rfl
  | byt b => obtain ⟨t, e⟩ := (show ∃ t, u = Value.bytes b t from r); cases e; rfl
  | flt b => obtain ⟨t, e⟩ := (show ∃ t, u = Value.float b t from r); cases e; rfl
  | ref a => cases (show u = Value.ref a from r); rfl
  | ty n => cases (show u = Value.type n from r); rfl
section
variable {P : Program} {w : World} {H H' : Hp} {h h' : Heap} {a C dx : Addr} {fs fs' : List (Str × V)}
theorem ins_get (hok : HOk P w H h) (e : H a = some (.ins C dx fs)) : ∃ mA, ObjM h a dx C mA ∧ (∀ f, RelO (fs.lookup f) (mA f)) ∧ PySem.Within mA (fs.map (·.1)) ∧ fs.length ≤ 1000 ∧ H dx = some (.own a) := by
  obtain ⟨d, z, ne, ob, mA, n, r, q⟩ := (show ObjOk P w H h a (.ins C dx fs) from hok a _ e)
  exact ⟨mA, ⟨ob, n, ne⟩, r, q, z, d⟩
end
structure Cls (K : PySem.W.Frag) (C : Addr) : Prop where
  pg : PySem.W.plainGet K C Str.empty = true
  hd : PySem.W.hasDictIn K C = true
  po : PySem.W.plainOver K C = true
  sa : PySem.W.findIn K (.ref C) "__setattr__" = some (some (.builtin "object.__setattr__"))
theorem Cls.get {K : PySem.W.Frag} {C : Addr} (c : Cls K C) (f : Str) : PySem.W.plainGet K C f = true := c.pg
def NoAttr (K : PySem.W.Frag) (C : Addr) (f : Str) : Prop := PySem.W.findIn K (.ref C) f = some none
theorem NoAttr.taker {K : PySem.W.Frag} {C : Addr} {f : Str} (n : NoAttr K C f) : PySem.W.takerIn K C f = some none := by
  unfold PySem.W.takerIn
  rw [show PySem.W.findIn K (.ref C) f = some none from n]
  rfl
structure Meth (K : PySem.W.Frag) (C : Addr) (m : Str) (f : Addr) : Prop where
  at_ : PySem.W.findIn K (.ref C) m = some (some (.ref f))
  fn : PySem.W.isFn K (.ref f) = true
  kp : PySem.W.keepIn K (.ref f) = true
section
variable {X : Cx} {pins : List (Addr × Obj)} {σ : St} {H : Hp} {s : Shared} {a C dx : Addr} {fs : List (Str × V)} {f : Str} {v : V} {A : Around} {E : Value → Shared → Prop}
theorem getattr_ok {b : Bool} {Q : Value → Shared → Prop} (I : Inv X pins σ H s) (e : H a = some (.ins C dx fs)) (c : Cls X.K C) (n : NoAttr X.K C f) (l : fs.lookup f = some v)
    (h : ∀ u s', Inv X pins σ H s' → RelV v u → Q u s') : wpAny (model X.prog X.w) A (getAttr (.ref a) f b) Q E s := by
  obtain ⟨mA, O, r, _, _, _⟩ := ins_get I.hok e
  obtain ⟨u, hu, ru⟩ := RelO.some_of (v := v) (o := mA f) (by rw [← l]; exact r f)
  exact get_map I.kIn O (c.get f) c.hd n hu (handed_of ru) (h u _ (I.tok _) ru)
theorem getmeth_ok {m : Str} {g : Addr} {pl : Sem Bool} {Q : Value × List Value → Shared → Prop} (I : Inv X pins σ H s) (e : H a = some (.ins C dx fs)) (c : Cls X.K C) (k : Meth X.K C m g) (l : fs.lookup m = none)
    (h : Q (.ref g, [.ref a]) s) : wpAny (model X.prog X.w) A (getMethod (.ref a) m pl) Q E s := by
  obtain ⟨mA, O, r, _, _, _⟩ := ins_get I.hok e
  have hn : mA m = none := RelO.none_of (by rw [← l]; exact r m)
  exact get_meth I.kIn O (c.get m) k.at_ k.fn hn h
theorem setattr_ok {y : V} {u : Value} {Q : Unit → Shared → Prop} (I : Inv X pins σ H s) (e : H a = some (.ins C dx fs)) (c : Cls X.K C) (n : NoAttr X.K C f) (hl : fs.length < 1000) (ry : RelV y u)
    (h : ∀ s', Inv X pins σ (upd H a (.ins C dx (putF f y fs))) s' → Q () s') : wpAny (model X.prog X.w) A (setAttr (.ref a) f u) Q E s := by
  obtain ⟨mA, O, r, wi, _, ho⟩ := ins_get I.hok e
  have hz : (fs.map (·.1)).length ≤ sizeLine := by rw [List.length_map, sizeLine_eq]; omega
  refine set_map I.kIn O c.sa c.po n.taker c.hd wi hz fun h' O' sb => h _ ?_
  have hd : ∃ o, h'.get? dx = some o := let ⟨o, _, _, e', _⟩ := O'.ns; ⟨o, e'⟩
  refine I.write (x := a) (e := dx) (by rw [e]; exact True.intro) (.inr ho) (fun b q hb z => (sb.2 b hb).trans z) hd ?_
  refine ⟨by rw [upd_ne O.ne]; exact ho, ?_, O.ne, O'.obj, _, O'.ns, fun g => ?_, fun g hg => ?_⟩
  · have := length_putF f y fs; omega
  · show RelO ((putF f y fs).lookup g) (if g = f then some u else mA g)
    rw [lookup_putF]
    by_cases q : g = f
    · rw [if_pos q, if_pos q]; exact ry
    · rw [if_neg q, if_neg q]; exact r g
  · by_cases q : g = f
    · rw [q]; exact (keys_putF f y fs).1
    · refine (keys_putF f y fs).2 g (wi g fun z => hg ?_)
      show (if g = f then some u else mA g) = none
      rw [if_neg q]; exact z
theorem Inv.made (I : Inv X pins σ H s) : Inv X pins σ (upd (upd H s.heap.objs.size (.own (s.heap.objs.size + 1))) (s.heap.objs.size + 1) (.ins C s.heap.objs.size []))
    { s with heap := (s.heap.push PySem.W.emptyDict).push (PySem.W.instObj C s.heap.objs.size) } := by
  have e1 : (s.heap.push PySem.W.emptyDict).get? s.heap.objs.size = some PySem.W.emptyDict := Heap.get?_push_size s.heap rfl
  have e2 : ((s.heap.push PySem.W.emptyDict).push (PySem.W.instObj C s.heap.objs.size)).get? (s.heap.objs.size + 1) = some (PySem.W.instObj C s.heap.objs.size) := by
    have := Heap.get?_push_size (s.heap.push PySem.W.emptyDict) (o := PySem.W.instObj C s.heap.objs.size) rfl
    rwa [Heap.size_push] at this
  have e3 : (s.heap.push PySem.W.emptyDict).Ns s.heap.objs.size (fun _ => none) := ⟨PySem.W.emptyDict, #[], _, e1, rfl, (fun e he => absurd he (by simp)), fun _ => rfl⟩
  have I1 := I.laid (a := s.heap.objs.size) (o := .own (s.heap.objs.size + 1)) (h' := s.heap.push PySem.W.emptyDict) (t' := s.toks) (fun b u q => Heap.get?_push_of_some _ q) (Nat.le_refl _) ⟨_, e1⟩
  refine I1.laid (a := s.heap.objs.size + 1) (o := .ins C s.heap.objs.size []) (t' := s.toks) (fun b u q => Heap.get?_push_of_some _ q) (Nat.le_of_eq (Heap.size_push _ _)) ?_
  have ne : s.heap.objs.size ≠ s.heap.objs.size + 1 := Nat.ne_of_lt (Nat.lt_succ_self _)
  refine ⟨by rw [upd_ne ne, upd_same], Nat.zero_le _, ne, e2, fun _ => none, (Heap.Ns1.of_empty e3).at fun o q => Heap.get?_push_of_some _ q, fun _ => True.intro, fun y hy => absurd rfl hy⟩
theorem attr_of {prog : Program} {w : World} {env : Env} {e : Expr} {f : Str} {pos : Pos} {s : Shared} {Q : Value → Shared → Prop} (hb : attributeBase e f env (eval e env) = eval e env)
    (h : wpAny (model prog w) A (eval e env) (fun o s₁ => wpAny (model prog w) A (getAttr o f true) Q E s₁) E s) : wpAny (model prog w) A (eval (.Attribute e f pos) env) Q E s :=
  Attribute_any_ h (by rw [arm_eval_Attribute, hb])
end
def tFld (K : PySem.W.Frag) (ta : TE) (f : Str) : TE := fun σ H Q => ta σ H fun x H1 => ∃ a C dx fs v, x = .ref a ∧ H1 a = some (.ins C dx fs) ∧ Cls K C ∧ NoAttr K C f ∧ fs.lookup f = some v ∧ Q v H1
def sFld (K : PySem.W.Frag) (ta tv : TE) (f : Str) : TS := fun D σ H => tv σ H fun y H1 => ta σ H1 fun x H2 => ∃ a C dx fs, x = .ref a ∧ H2 a = some (.ins C dx fs) ∧ Cls K C ∧ NoAttr K C f ∧ fs.length < 1000 ∧
  D.nx σ (upd H2 a (.ins C dx (putF f y fs)))
def InOp (X : Cx) (op : Operator) (rd : V → V → Hp → VK → Prop) : Prop :=
  ∀ (pins : List (Addr × Obj)) (s : Shared) (σ : St) (H : Hp) (x y : V) (u v : Value) (Q : VK), Inv X pins σ H s → RelV x u → RelV y v → rd x y H Q → wpAny (model X.prog X.w) X.A (inplaceOp op u v) (EP X pins σ Q) X.xe s
def sFldAug (K : PySem.W.Frag) (ta tv : TE) (rd : V → V → Hp → VK → Prop) (f : Str) : TS := fun D σ H => ta σ H fun x H1 => ∃ a C dx fs v, x = .ref a ∧ H1 a = some (.ins C dx fs) ∧ Cls K C ∧ NoAttr K C f ∧ fs.lookup f = some v ∧
  tv σ H1 fun y H2 => rd v y H2 fun z H3 => ∃ dx' fs', H3 a = some (.ins C dx' fs') ∧ fs'.length < 1000 ∧ D.nx σ (upd H3 a (.ins C dx' (putF f z fs')))
section
variable {X : Cx} {o e value : Expr} {f : Str} {pos pos' tpos : Pos} {ta tv : TE}
theorem pe_fld (he : PE X e ta) (hb : attributeBase e f X.env (eval e X.env) = eval e X.env) : PE X (.Attribute e f pos) (tFld X.K ta f) := by
  intro pins s σ H Q I h
  refine attr_of hb (thn (he pins s σ H _ I h) fun u s1 ⟨x, H1, I1, rx, a, C, dx, fs, v, ex, ea, c, n, l, q⟩ => ?_)
  subst ex
  obtain rfl : u = Value.ref a := rx
  exact getattr_ok I1 ea c n l fun u' s2 I2 ru => ⟨v, H1, I2, ru, q⟩
theorem ps_fld (ha : PE X o ta) (hv : PE X value tv) (hs : swapsWith value (some (.Attribute o f pos')) pos.line X.env = pure false) : PS X (.Assign [.Attribute o f pos'] value pos) (sFld X.K ta tv f) := by
  intro pins s σ H D I h
  refine plainObj_wpAny_Assign_Attribute (thn (hv pins s σ H _ I h) fun u s1 ⟨y, H1, I1, ry, q⟩ => thn (ha pins s1 σ H1 _ I1 q) fun ov s2 ⟨x, H2, I2, rx, a, C, dx, fs, ex, ea, c, n, l, q2⟩ => ?_) hs
  subst ex
  obtain rfl : ov = Value.ref a := rx
  exact setattr_ok I2 ea c n l ry fun s3 I3 => ⟨σ, _, I3, q2⟩
theorem ps_fldaug {op : Operator} {rd : V → V → Hp → VK → Prop} (ha : PE X o ta) (hv : PE X value tv) (hop : InOp X op rd) : PS X (.AugAssign (.Attribute o f tpos) op value pos) (sFldAug X.K ta tv rd f) := by
  intro pins s σ H D I h
  refine wpAny_AugAssign_AttributeAny (thn (ha pins s σ H _ I h) fun ov s1 ⟨x, H1, I1, rx, a, C, dx, fs, v, ex, ea, c, n, l, q⟩ => ?_)
  subst ex
  obtain rfl : ov = Value.ref a := rx
  refine getattr_ok I1 ea c n l fun u s2 I2 ru => thn (hv pins s2 σ H1 _ I2 q) fun w3 s3 ⟨y, H2, I3, ry, q3⟩ => thn (hop pins s3 σ H2 v y u w3 _ I3 ru ry q3) fun w4 s4 ⟨z, H3, I4, rz, dx', fs', ea', l', q4⟩ => ?_
  exact setattr_ok I4 ea' c n l' rz fun s5 I5 => ⟨σ, _, I5, q4⟩
def rAdd : V → V → Hp → VK → Prop := fun x y H Q => ∃ i j, x = .int i ∧ y = .int j ∧ Q (.int (i + j)) H
theorem in_add : InOp X .Add rAdd := by
  rintro pins s σ H x y u v Q I rx ry ⟨i, j, rfl, rfl, q⟩
  obtain ⟨t, rfl⟩ := (show ∃ t, u = Value.int i t from rx)
  obtain ⟨t', rfl⟩ := (show ∃ t', v = Value.int j t' from ry)
  exact PyProof.Rows.iadd_int ⟨.int (i + j), H, I.tok _, ⟨_, rfl⟩, q⟩
end
end L2
namespace L2
open PySem PySem.Spec PyProof.Rows
structure Room (k : Nat) (A : Around) : Prop where
  hd : A.handled = none
  dp : A.depth + 3 * k + 5 < recursionLimit
  un : A.units + 16 * k + 200 < cLine
theorem Room.mono {j k : Nat} {A : Around} (r : Room k A) (h : j ≤ k) : Room j A := ⟨r.hd, by have := r.dp; omega, by have := r.un; omega⟩
theorem Room.deeper {k : Nat} {A : Around} (r : Room (k + 1) A) (env : Env) : Room k (A.deeper env) :=
  ⟨r.hd, by have := r.dp; show A.depth + 1 + 3 * k + 5 < _; omega, by have := r.un; show A.units + 3 + 16 * k + 200 < _; omega⟩
theorem make_depth {A : Around} {C : Addr} {us : List Value} {kw : List (Str × Value)} : (A.under (.builtin "type.__call__" ⟨.ref C :: us, kw⟩)).depth = A.depth + 1 := by
  first | rfl | simp [Around.under, Code.weight, Code.isCreation, Code.isGuard, Code.isCaller, Code.frames, Code.isFrame, guardIds]
theorem make_units {A : Around} {C : Addr} {us : List Value} {kw : List (Str × Value)} : (A.under (.builtin "type.__call__" ⟨.ref C :: us, kw⟩)).units = A.units + 1 := by
  first | rfl | simp [Around.under, Code.cUnits, Code.frames, Code.isFrame]
theorem Room.make {k : Nat} {A : Around} (r : Room (k + 1) A) (C : Addr) (us : List Value) (kw : List (Str × Value)) : Room k (A.under (.builtin "type.__call__" ⟨.ref C :: us, kw⟩)) :=
  ⟨r.hd, by have := r.dp; rw [make_depth]; omega, by have := r.un; rw [make_units]; omega⟩
theorem Room.depth {k : Nat} {A : Around} (r : Room k A) : A.depth < recursionLimit := by have := r.dp; omega
def tNil : TA := fun _ H Q => Q [] H
def tCons (ta : TE) (tr : TA) : TA := fun σ H Q => ta σ H fun x H1 => tr σ H1 fun xs H2 => Q (x :: xs) H2
section
variable {X : Cx} {e : Expr} {es : List Expr} {te : TE} {t : TA} {pos : Pos}
theorem pa_nil : PA X [] tNil := fun _ _ _ _ H Q I h => Calls.spliced_nil ⟨[], H, I, .nil, h⟩
theorem pa_cons (ha : PE X e te) (hr : PA X es t) (hs : starEach (e :: es) X.env = (false, eval e X.env) :: starEach es X.env := by rfl) : PA X (e :: es) (tCons te t) := by
  intro pos pins s σ H Q I h
  rw [hs]
  show wpAny _ _ (spliced ((false, eval e X.env) :: backTo pos (starEach es X.env))) _ _ s
  refine Calls.spliced_cons (thn (ha pins s σ H _ I h) fun u s1 ⟨x, H1, I1, r1, q1⟩ => ?_)
  exact thn (hr pos pins s1 σ H1 _ I1 q1) fun us s2 ⟨xs, H2, I2, r2, q2⟩ => ⟨x :: xs, H2, I2, .cons r1 r2, q2⟩
def tTup (t : TA) : TE := fun σ H Q => t σ H fun xs H1 => xs.length ≤ sizeLine ∧ ∀ p, H1 p = none → Q (.ref p) (upd H1 p (.tup xs))
def tLst (t : TA) : TE := fun σ H Q => t σ H fun xs H1 => xs.length ≤ sizeLine ∧ ∀ p, H1 p = none → Q (.ref p) (upd H1 p (.lst xs))
theorem pe_tup {x1} (h : PA X es t) : PE X (.Tuple es x1 pos) (tTup t) := by
  intro pins s σ H Q I hq
  refine wpAny_Tuple_spliced (thn (h pos pins s σ H _ I hq) fun us s1 ⟨xs, H1, I1, r, z, q⟩ => ⟨by rw [← r.length]; exact z, ?_⟩)
  have hf : H1 s1.heap.objs.size = none := I1.hok.fresh (Nat.le_refl _)
  refine ⟨.ref s1.heap.objs.size, upd H1 s1.heap.objs.size (.tup xs), I1.laid (t' := s1.toks) (fun b u e => Heap.get?_push_of_some _ e) (Nat.le_refl _) ?_, rfl, q _ hf⟩
  exact ⟨z, us, r, ⟨_, Heap.get?_push_size _ rfl, rfl, _, rfl⟩⟩
theorem pe_lst (h : PA X es t) : PE X (.List es pos) (tLst t) := by
  intro pins s σ H Q I hq
  refine wpAny_List_spliced (thn (h pos pins s σ H _ I hq) fun us s1 ⟨xs, H1, I1, r, z, q⟩ => ⟨by rw [← r.length]; exact z, ?_⟩)
  have hf : H1 s1.heap.objs.size = none := I1.hok.fresh (Nat.le_refl _)
  refine ⟨.ref s1.heap.objs.size, upd H1 s1.heap.objs.size (.lst xs), I1.laid (t' := s1.toks) (fun b u e => Heap.get?_push_of_some _ e) (Nat.le_refl _) ?_, rfl, q _ hf⟩
  exact ⟨z, us, 0, r, Heap.get?_push_size _ rfl⟩
end
abbrev Sp := List V → Hp → VK → XK → Prop
abbrev CXT := List Env → Hp → Shared → XK → Value → Shared → Prop
structure Env0 (P : Program) (w : World) (K : PySem.W.Frag) (mg : Str → Option Value) (base : Heap) (A : Around) (outer : List Env) (s : Shared) (H : Hp) : Prop where
  frames : A.frames = some outer
  mod : Mod K mg base
  bs : ∀ b o, base.get? b = some o → s.heap.get? b = some o ∧ H b = none
  bsz : base.objs.size ≤ s.heap.objs.size
  funs : s.heap.FunFrames base outer
  frf : ∀ b ∈ frs outer, H b = none
  hok : HOk P w H s.heap
  bare : AllBare s.gens
def CE (outer : List Env) (P : Program) (w : World) (H : Hp) (s : Shared) (Q : VK) (u : Value) (s' : Shared) : Prop :=
  ∃ v H', s'.os = s.os ∧ AllBare s'.gens ∧ Un (frs outer) [] H H' s.heap s'.heap ∧ HOk P w H' s'.heap ∧ RelV v u ∧ Q v H'
def CR (CX : CXT) (outer : List Env) (P : Program) (w : World) (H : Hp) (s : Shared) (Q : VK) (E : XK) (r : Result) (s' : Shared) : Prop :=
  match r with
  | .ok (.ret u) => CE outer P w H s Q u s'
  | .ok _ => False
  | .error e => CX outer H s E e s'
structure FnOk (P : Program) (w : World) (K : PySem.W.Frag) (mg : Str → Option Value) (base : Heap) (CX : CXT) (k : Nat) (f : Addr) (fd : FuncData) (ps : List Str) (sp : Sp) : Prop where
  len : ∀ vs H Q E, sp vs H Q E → vs.length = ps.length
  run : ∀ (A : Around) (outer : List Env) (s : Shared) (H : Hp) (args : Args) (us : List Value) (vs : List V) (Q : VK) (E : XK), Room k A → Env0 P w K mg base A outer s H → BindsTo s fd args (ps.zip us) → Vals vs us → sp vs H Q E →
    codeAny (model P w) A (.call (.ref f) args) (CR CX outer P w H s Q E) s
theorem FnOk.mono {P : Program} {w : World} {K : PySem.W.Frag} {mg : Str → Option Value} {base : Heap} {CX : CXT} {j k : Nat} {f : Addr} {fd : FuncData} {ps : List Str} {sp : Sp} (F : FnOk P w K mg base CX j f fd ps sp) (h : j ≤ k) :
    FnOk P w K mg base CX k f fd ps sp := ⟨F.len, fun A outer s H args us vs Q E hr => F.run A outer s H args us vs Q E (hr.mono h)⟩
theorem FnOk.imp {P : Program} {w : World} {K : PySem.W.Frag} {mg : Str → Option Value} {base : Heap} {CX : CXT} {k : Nat} {f : Addr} {fd : FuncData} {ps : List Str} {sp sp' : Sp} (F : FnOk P w K mg base CX k f fd ps sp)
    (h : ∀ vs H Q E, sp' vs H Q E → sp vs H Q E) : FnOk P w K mg base CX k f fd ps sp' :=
  ⟨fun vs H Q E q => F.len vs H Q E (h _ _ _ _ q), fun A outer s H args us vs Q E hr he hb hv hs => F.run A outer s H args us vs Q E hr he hb hv (h _ _ _ _ hs)⟩
theorem Env0.make {P : Program} {w : World} {K : PySem.W.Frag} {mg : Str → Option Value} {base : Heap} {A : Around} {outer : List Env} {s : Shared} {H : Hp} (e : Env0 P w K mg base A outer s H) (C : Addr) (us : List Value) (kw : List (Str × Value)) :
    Env0 P w K mg base (A.under (.builtin "type.__call__" ⟨.ref C :: us, kw⟩)) outer s H := ⟨by first | exact e.frames | (simpa [Around.under, Code.envs, Code.isFrame, pushEnvs] using e.frames), e.mod, e.bs, e.bsz, e.funs, e.frf, e.hok, e.bare⟩
section
variable {X : Cx} {pins : List (Addr × Obj)} {σ : St} {H : Hp} {s s' : Shared}
theorem Inv.env0 (I : Inv X pins σ H s) : Env0 X.prog X.w X.K X.mg X.base X.A X.stack s H :=
  ⟨I.ok.frames, I.ok.mod, I.bs, Nat.le_trans I.ok.bsz I.sz, I.stack, I.stkFree, I.hok, I.bare⟩
theorem Inv.after {Q : VK} {u : Value} (I : Inv X pins σ H s) (h : CE X.stack X.prog X.w H s Q u s') : EP X pins σ Q u s' := by
  obtain ⟨v, H', os, bare, un, hok, r, q⟩ := h
  obtain ⟨hh, g, d, t, os'⟩ := s'
  obtain rfl : os' = s.os := os
  exact ⟨v, H', I.call (h' := hh) (g' := g) (d' := d) (t' := t) (ch := []) un hok bare (fun b z => absurd z (by simp)), r, q⟩
end
def tCall (sp : Sp) (dvs : List V) (E : XK) (t : TA) : TE := fun σ H Q => t σ H fun vs H1 => sp (vs ++ dvs) H1 Q E
def tMeth (C : Addr) (m : Str) (sp : Sp) (dvs : List V) (E : XK) (ta : TE) (t : TA) : TE := fun σ H Q => ta σ H fun x H1 => ∃ a dx fs, x = .ref a ∧ H1 a = some (.ins C dx fs) ∧ fs.lookup m = none ∧
  t σ H1 fun vs H2 => sp (x :: (vs ++ dvs)) H2 Q E
def tMake (C : Addr) (sp : Sp) (dvs : List V) (E : XK) (t : TA) : TE := fun σ H Q => t σ H fun vs H1 => ∀ x dx, H1 x = none → H1 dx = none → dx ≠ x →
  sp (.ref x :: (vs ++ dvs)) (upd (upd H1 dx (.own x)) x (.ins C dx [])) (fun v H2 => v = .non ∧ Q (.ref x) H2) E
def Binds (K : PySem.W.Frag) (fd : FuncData) (ps : List Str) (ds : List Value) : Prop :=
  ∀ (s : Shared) (us : List Value), K.In s.heap → (us ++ ds).length = ps.length → BindsTo s fd ⟨us, []⟩ (ps.zip (us ++ ds))
theorem Binds.all {K : PySem.W.Frag} {fd : FuncData} {ps : List Str} (h : ∀ us : List Value, us.length = ps.length → bindArgs fd ⟨us, []⟩ = pure (ps.zip us)) : Binds K fd ps [] := fun s us _ hl => by
  rw [List.append_nil] at hl ⊢
  exact .of_eq (h us hl)
def Passes (CX : CXT) (X : Cx) (E : XK) : Prop := ∀ (pins : List (Addr × Obj)) (σ : St) (H : Hp) (s : Shared) (e : Value) (s' : Shared), Inv X pins σ H s → CX X.stack H s E e s' → X.xe e s'
section
variable {X : Cx} {CX : CXT} {k : Nat} {f C : Addr} {fd : FuncData} {ps : List Str} {sp : Sp} {dvs : List V} {ds : List Value} {E : XK} {x m : Str} {p pos apos : Pos} {e o : Expr} {es : List Expr} {ta : TE} {t : TA}
theorem run_fn {pins : List (Addr × Obj)} {σ : St} {H : Hp} {s : Shared} {Q : VK} {us : List Value} {vs : List V} (F : FnOk X.prog X.w X.K X.mg X.base CX k f fd ps sp) (hr : Room k X.A) (hb : Binds X.K fd ps ds) (hd : Vals dvs ds) (hx : Passes CX X E)
    (I : Inv X pins σ H s) (r : Vals vs us) (h : sp (vs ++ dvs) H Q E) : wpAny (model X.prog X.w) X.A (call (.ref f) us) (EP X pins σ Q) X.xe s := by
  have r2 : Vals (vs ++ dvs) (us ++ ds) := r.append hd
  have hl : (us ++ ds).length = ps.length := by rw [← r2.length]; exact F.len _ _ _ _ h
  refine wpAny_call (codeAny_mono (F.run X.A X.stack s H ⟨us, []⟩ (us ++ ds) (vs ++ dvs) Q E hr I.env0 (hb s us I.kIn hl) r2 h) fun r s' hq => ?_)
  cases r with
  | error e => exact hx pins σ H s e s' I hq
  | ok fl =>
    cases fl with
    | ret u => exact I.after hq
    | next => exact False.elim hq
    | brk => exact False.elim hq
    | cont => exact False.elim hq
theorem pe_call (F : FnOk X.prog X.w X.K X.mg X.base CX k f fd ps sp) (hr : Room k X.A) (hg : Gl X x) (hm : X.mg x = some (.ref f)) (hk : PySem.W.keepIn X.K (.ref f) = true) (hb : Binds X.K fd ps ds) (hd : Vals dvs ds) (hx : Passes CX X E)
    (ha : PA X (e :: es) t) (hdb : (x == ("__debug__" : Str)) = false := by decide) (he : starEach (e :: es) X.env = (false, eval e X.env) :: starEach es X.env := by rfl) (hpl : (backTo pos (starEach es X.env)).any (·.1) = false := by rfl) :
    PE X (.Call (.Name x p) (e :: es) [] pos) (tCall sp dvs E t) := by
  intro pins s σ H Q I h
  refine wpAny_Call_Name_kw (ld_glob I hg hm ?_ hdb)
  refine PySem.W.callWith_K (h₀ := X.base) I.ok.mod.kin hk (thn (ha pos pins s σ H _ I h) fun us s1 ⟨vs, H1, I1, r, q⟩ => ⟨I1.kIn, ?_⟩) he hpl
  exact run_fn F hr hb hd hx I1 r q
theorem pe_meth {pl : Sem Bool} (he : PE X o ta) (c : Cls X.K C) (hm : Meth X.K C m f) (F : FnOk X.prog X.w X.K X.mg X.base CX k f fd ps sp) (hr : Room k X.A) (hb : Binds X.K fd ps ds) (hd : Vals dvs ds) (hx : Passes CX X E) (ha : PA X (e :: es) t)
    (hst : starEach (e :: es) X.env = (false, eval e X.env) :: starEach es X.env := by rfl) (hpl : (backTo pos (starEach es X.env)).any (·.1) = false := by rfl)
    (ht : eval (.Call (.Attribute o m apos) (e :: es) [] pos) X.env = (do
      let ov ← eval o X.env
      standAt apos.atName
      let (f, first) ← holding [ov] (getMethod ov m pl)
      callWith pos f first (backTo pos (starEach (e :: es) X.env)) (backToKw pos (keywordEach [] X.env))) := by rfl) :
    PE X (.Call (.Attribute o m apos) (e :: es) [] pos) (tMeth C m sp dvs E ta t) := by
  intro pins s σ H Q I h
  refine PySem.W.methodCall_KW (pl := pl) (thn (he pins s σ H _ I h) fun u s1 ⟨x, H1, I1, rx, a, dx, fs, ex, ea, l, q⟩ => ?_) ht
  subst ex
  obtain rfl : u = Value.ref a := rx
  refine getmeth_ok I1 ea c hm l ?_
  refine PySem.W.callWith_K (first := [.ref a]) (h₀ := X.base) I.ok.mod.kin hm.kp (thn (ha pos pins s1 σ H1 _ I1 q) fun us s2 ⟨vs, H2, I2, r, q2⟩ => ⟨I2.kIn, ?_⟩) hst hpl
  exact run_fn (us := .ref a :: us) (vs := .ref a :: vs) F hr hb hd hx I2 (.cons rfl r) q2
theorem pe_meth0 {pl : Sem Bool} (he : PE X o ta) (c : Cls X.K C) (hm : Meth X.K C m f) (F : FnOk X.prog X.w X.K X.mg X.base CX k f fd ps sp) (hr : Room k X.A) (hb : Binds X.K fd ps ds) (hd : Vals dvs ds) (hx : Passes CX X E)
    (ht : eval (.Call (.Attribute o m apos) [] [] pos) X.env = (do
      let ov ← eval o X.env
      standAt apos.atName
      let (f, first) ← holding [ov] (getMethod ov m pl)
      callWith pos f first (backTo pos (starEach [] X.env)) (backToKw pos (keywordEach [] X.env))) := by rfl) :
    PE X (.Call (.Attribute o m apos) [] [] pos) (tMeth C m sp dvs E ta tNil) := by
  intro pins s σ H Q I h
  refine PySem.W.methodCall_KW (pl := pl) (thn (he pins s σ H _ I h) fun u s1 ⟨x, H1, I1, rx, a, dx, fs, ex, ea, l, q⟩ => ?_) ht
  subst ex
  obtain rfl : u = Value.ref a := rx
  refine getmeth_ok I1 ea c hm l ?_
  exact PySem.W.callWith_K0 (first := [.ref a]) I1.kIn hm.kp (run_fn (us := [.ref a]) (vs := [.ref a]) F hr hb hd hx I1 (.cons rfl .nil) q)
structure Mk (K : PySem.W.Frag) (C f : Addr) : Prop where
  makes : PySem.W.makesIn K C = true
  init : PySem.W.findIn K (.ref C) "__init__" = some (some (.ref f))
  fn : PySem.W.isFn K (.ref f) = true
  kp : PySem.W.keepIn K (.ref C) = true
theorem run_make {pins : List (Addr × Obj)} {σ : St} {H : Hp} {s : Shared} {Q : VK} {us : List Value} {vs : List V} (M : Mk X.K C f) (F : FnOk X.prog X.w X.K X.mg X.base CX k f fd ps sp) (hr : Room (k + 1) X.A) (hb : Binds X.K fd ps ds) (hd : Vals dvs ds)
    (hx : Passes CX X E) (I : Inv X pins σ H s) (r : Vals vs us)
    (h : ∀ x dx, H x = none → H dx = none → dx ≠ x → sp (.ref x :: (vs ++ dvs)) (upd (upd H dx (.own x)) x (.ins C dx [])) (fun v H2 => v = .non ∧ Q (.ref x) H2) E) :
    wpAny (model X.prog X.w) X.A (call (.ref C) us) (EP X pins σ Q) X.xe s := by
  have hq := h (s.heap.objs.size + 1) s.heap.objs.size (I.hok.fresh (Nat.le_succ _)) (I.hok.fresh (Nat.le_refl _)) (Nat.ne_of_lt (Nat.lt_succ_self _))
  have I2 := Inv.made (C := C) I
  have r2 : Vals (V.ref (s.heap.objs.size + 1) :: (vs ++ dvs)) (Value.ref (s.heap.objs.size + 1) :: (us ++ ds)) := .cons rfl (r.append hd)
  have hl : (Value.ref (s.heap.objs.size + 1) :: us ++ ds).length = ps.length := by
    have e := r2.length
    rw [F.len _ _ _ _ hq] at e
    exact e.symm
  refine wpAny_call (make_map (f := f) I.kIn M.makes M.init (beq_iff_eq.mp M.fn) (codeAny_mono (F.run _ X.stack _ _ ⟨Value.ref (s.heap.objs.size + 1) :: us, []⟩ (Value.ref (s.heap.objs.size + 1) :: (us ++ ds)) _ _ E (hr.make C us [])
    (I2.env0.make C us []) (hb _ (Value.ref (s.heap.objs.size + 1) :: us) I2.kIn hl) r2 hq) fun r s' hq' => ?_))
  cases r with
  | error e => exact hx pins σ _ _ e s' I2 hq'
  | ok fl =>
    cases fl with
    | ret u =>
      obtain ⟨v, H', I3, rv, ev, q3⟩ := I2.after hq'
      subst ev
      exact ⟨rv, ⟨V.ref (s.heap.objs.size + 1), H', I3, rfl, q3⟩⟩
    | next => exact False.elim hq'
    | brk => exact False.elim hq'
    | cont => exact False.elim hq'
theorem pe_make (M : Mk X.K C f) (F : FnOk X.prog X.w X.K X.mg X.base CX k f fd ps sp) (hr : Room (k + 1) X.A) (hg : Gl X x) (hm : X.mg x = some (.ref C)) (hb : Binds X.K fd ps ds) (hd : Vals dvs ds) (hx : Passes CX X E)
    (ha : PA X (e :: es) t) (hdb : (x == ("__debug__" : Str)) = false := by decide) (he : starEach (e :: es) X.env = (false, eval e X.env) :: starEach es X.env := by rfl) (hpl : (backTo pos (starEach es X.env)).any (·.1) = false := by rfl) :
    PE X (.Call (.Name x p) (e :: es) [] pos) (tMake C sp dvs E t) := by
  intro pins s σ H Q I h
  refine wpAny_Call_Name_kw (ld_glob I hg hm ?_ hdb)
  refine PySem.W.callWith_K (h₀ := X.base) I.ok.mod.kin M.kp (thn (ha pos pins s σ H _ I h) fun us s1 ⟨vs, H1, I1, r, q⟩ => ⟨I1.kIn, ?_⟩) he hpl
  exact run_make M F hr hb hd hx I1 r q
theorem pe_make0 (M : Mk X.K C f) (F : FnOk X.prog X.w X.K X.mg X.base CX k f fd ps sp) (hr : Room (k + 1) X.A) (hg : Gl X x) (hm : X.mg x = some (.ref C)) (hb : Binds X.K fd ps ds) (hd : Vals dvs ds) (hx : Passes CX X E)
    (hdb : (x == ("__debug__" : Str)) = false := by decide) : PE X (.Call (.Name x p) [] [] pos) (tMake C sp dvs E tNil) := by
  intro pins s σ H Q I h
  refine wpAny_Call_Name_kw (ld_glob I hg hm ?_ hdb)
  exact PySem.W.callWith_K0 I.kIn M.kp (run_make (us := []) M F hr hb hd hx I .nil h)
end
structure FnScope (N P : List Str) (sc : Scope) : Prop where
  kind : sc.kind = .function
  co : sc.isCoroutine = false
  gen : sc.isGenerator = false
  nd : N.Nodup
  pre : N.take P.length = P
  par : ∀ x ∈ P, sc.names.lookup x = some .local ∨ sc.names.lookup x = some .cell
  nofree : ∀ y ∈ sc.names, y.2 ≠ .free
theorem bindL_out {kindOf : Str → Option NameKind} {x : Str} : ∀ {binds : List (Str × Value)} {m : Str → Option Value}, (∀ v, (x, v) ∉ binds) → bindL kindOf binds m x = m x
  | [], _, _ => rfl
  | (n, v) :: r, m, h => by
    unfold bindL
    rw [bindL_out fun w hw => h w (List.mem_cons_of_mem _ hw)]
    split
    · have : x ≠ n := by rintro rfl; exact h v List.mem_cons_self
      simp [this]
    · rfl
theorem bindC_out {kindOf : Str → Option NameKind} {x : Str} : ∀ {binds : List (Str × Value)} {m : Str → Option Value}, (∀ v, (x, v) ∉ binds) → bindC kindOf binds m x = m x
  | [], _, _ => rfl
  | (n, v) :: r, m, h => by
    unfold bindC
    rw [bindC_out fun w hw => h w (List.mem_cons_of_mem _ hw)]
    split
    · rfl
    · have : x ≠ n := by rintro rfl; exact h v List.mem_cons_self
      simp [this]
theorem bindL_get {kindOf : Str → Option NameKind} {x : Str} {v : Value} : ∀ {P : List Str} {vs : List Value} {i : Nat} {m : Str → Option Value}, P.Nodup → P[i]? = some x → vs[i]? = some v → kindOf x = some .local →
    bindL kindOf (P.zip vs) m x = some v
  | [], _, _, _, _, h, _, _ => by simp at h
  | _ :: _, [], _, _, _, _, h, _ => by simp at h
  | p :: P, w :: vs, 0, m, nd, h1, h2, hk => by
    simp at h1 h2; subst h1; subst h2
    show bindL kindOf ((p, w) :: P.zip vs) m p = _
    unfold bindL
    rw [bindL_out fun v hv => (List.nodup_cons.mp nd).1 (List.of_mem_zip hv).1, if_pos hk]
    simp
  | p :: P, w :: vs, i + 1, m, nd, h1, h2, hk => by
    show bindL kindOf ((p, w) :: P.zip vs) m x = _
    unfold bindL
    exact bindL_get (i := i) (List.nodup_cons.mp nd).2 (by simpa using h1) (by simpa using h2) hk
theorem bindC_get {kindOf : Str → Option NameKind} {x : Str} {v : Value} : ∀ {P : List Str} {vs : List Value} {i : Nat} {m : Str → Option Value}, P.Nodup → P[i]? = some x → vs[i]? = some v → kindOf x ≠ some .local →
    bindC kindOf (P.zip vs) m x = some v
  | [], _, _, _, _, h, _, _ => by simp at h
  | _ :: _, [], _, _, _, _, h, _ => by simp at h
  | p :: P, w :: vs, 0, m, nd, h1, h2, hk => by
    simp at h1 h2; subst h1; subst h2
    show bindC kindOf ((p, w) :: P.zip vs) m p = _
    unfold bindC
    rw [bindC_out fun v hv => (List.nodup_cons.mp nd).1 (List.of_mem_zip hv).1, if_neg hk]
    simp
  | p :: P, w :: vs, i + 1, m, nd, h1, h2, hk => by
    show bindC kindOf ((p, w) :: P.zip vs) m x = _
    unfold bindC
    exact bindC_get (i := i) (List.nodup_cons.mp nd).2 (by simpa using h1) (by simpa using h2) hk
def start (N : List Str) (vs : List V) : St := vs.map some ++ List.replicate (N.length - vs.length) none
def cxOf (CX : CXT) (P : Program) (w : World) (K : PySem.W.Frag) (mg : Str → Option Value) (base : Heap) (N : List Str) (qual : Str) (scope : Scope) (f : Addr) (cd : Value) (A : Around) (outer : List Env) (s : Shared) (H : Hp) (E : XK) : Cx where
  prog := P
  w := w
  K := K
  mg := mg
  base := base
  A := A.deeper (envOfC qual scope s.heap.objs.size f cd)
  N := N
  s_0 := s
  H_0 := H
  env := envOfC qual scope s.heap.objs.size f cd
  outer := outer
  stack := envOfC qual scope s.heap.objs.size f cd :: outer
  ex := []
  calm := true
  fn := fun _ => true
  pn := []
  xe := fun e s' => wpAny (model P w) (A.deeper (envOfC qual scope s.heap.objs.size f cd)) (leaving (envOfC qual scope s.heap.objs.size f cd) e) (fun _ s'' => CX outer H s E e s'') (fun e' s'' => CX outer H s E e' s'') s'
theorem cell_has {sc : Scope} {n : Nat} {x : Str} (h : sc.names.lookup x = some .cell) : ∃ c, (cellsFrom n sc.names []).lookup x = some c := by
  have q := PySem.W.cellsFrom_some sc.names n [] (.inl h)
  exact Option.isSome_iff_exists.mp q
theorem inv_start {CX : CXT} {P : Program} {w : World} {K : PySem.W.Frag} {mg : Str → Option Value} {base : Heap} {N ps : List Str} {qual : Str} {scope : Scope} {f : Addr} {cd : Value} {A : Around} {outer : List Env} {s s1 : Shared} {H : Hp} {E : XK} {us : List Value} {vs : List V}
    (S : FnScope N ps scope) (hd : A.handled = none) (e0 : Env0 P w K mg base A outer s H) (hl : vs.length = ps.length) (r : Vals vs us)
    (x : InCallC s s.heap.objs.size (bindL (envOfC qual scope s.heap.objs.size f cd).kindOf (ps.zip us) fun _ => none) (cellsFrom (s.heap.objs.size + 1) scope.names []) (bindC (envOfC qual scope s.heap.objs.size f cd).kindOf (ps.zip us) fun _ => none) s1) :
    Inv (cxOf CX P w K mg base N qual scope f cd A outer s H E) [] (start N vs) H s1 := by
  have hpl : ps.length ≤ N.length := by have := congrArg List.length S.pre; rw [List.length_take] at this; omega
  obtain ⟨h1, tk, rfl, hk⟩ := x.done
  have noA : ∀ b : Addr, b ∉ (cxOf CX P w K mg base N qual scope f cd A outer s H E).ex := fun b z => absurd (show b ∈ ([] : List Addr) from z) (by simp)
  refine ⟨⟨e0.mod, S.kind, rfl, rfl, Nat.le_refl _, fun y z c h1 h2 => ?_, fun y hy => ?_, fun y c _ h => ?_, fun _ => hd, Around.frames_deeper e0.frames, .inr ⟨rfl, rfl⟩, fun b z => absurd z (noA b), e0.bs, e0.bsz, fun b _ _ => noA b, fun b z => absurd z (noA b), e0.funs, e0.frf⟩,
    rfl, e0.bare, Un.kept hk, ⟨_, x.toInCall.ns, fun i y v h1 h2 h3 => ?_⟩, fun y c h => ⟨_, x.cell y c h⟩, e0.hok.fresh (Nat.le_refl _), fun y c h => ?_, fun p hp => absurd (show p ∈ ([] : List (Addr × Obj)) from hp) (by simp), e0.hok.kept hk, ?_⟩
  · exact name_of_addr x.apart (PySem.mem_of_lookup h1) (PySem.mem_of_lookup h2)
  · have hy : scope.names.lookup y = some .cell ∨ scope.names.lookup y = some .free := hy
    rcases hy with hy | hy
    · exact cell_has hy
    · exact absurd rfl (S.nofree _ (PySem.mem_of_lookup hy))
  · exact Nat.le_of_lt (x.above y c (PySem.mem_of_lookup h))
  · have hi : i < vs.length := by
      unfold start at h2
      by_cases hi : i < vs.length
      · exact hi
      · rw [List.getElem?_append_right (by simpa using hi)] at h2
        rw [List.getElem?_replicate] at h2
        split at h2 <;> cases h2
    have ha : vs[i]? = some v := by
      unfold start at h2
      rw [List.getElem?_append_left (by simpa using hi), List.getElem?_map] at h2
      cases e : vs[i]? with
      | none => rw [e] at h2; cases h2
      | some a => rw [e] at h2; cases h2; rfl
    obtain ⟨u, hu, rv⟩ := r.get ha
    have hp : ps[i]? = some y := by
      rw [← S.pre, List.getElem?_take_of_lt (by omega)]; exact h1
    have ndP : ps.Nodup := by rw [← S.pre]; exact S.nd.sublist (List.take_sublist _ _)
    refine ⟨u, rv, ?_⟩
    rcases S.par y (List.mem_of_getElem? hp) with k | k
    · exact .inl ⟨k, bindL_get ndP hp hu k⟩
    · obtain ⟨c, e⟩ := cell_has (n := s.heap.objs.size + 1) k
      refine .inr ⟨.inl k, c, e, ?_⟩
      have q := x.cell y c e
      rw [bindC_get ndP hp hu (by show scope.names.lookup y ≠ _; rw [k]; decide)] at q
      exact q
  · exact e0.hok.fresh (Nat.le_of_lt (x.above y c (PySem.mem_of_lookup h)))
  · unfold start
    show _ = N.length
    rw [List.length_append, List.length_map, List.length_replicate]
    omega
theorem fn_of {CX : CXT} {P : Program} {w : World} {K : PySem.W.Frag} {mg : Str → Option Value} {base : Heap} {k : Nat} {f : Addr} {name qual : Str} {params : Arguments} {body : List Stmt} {scope : Scope} {dV kV doc pm cdv ct oc : Value} {an od : Option Addr}
    {osl : Array (Option Value)} {N ps : List Str} {sp : Sp} (lk : K.lookup f = some ⟨oc, od, .func (PySem.W.fnOf name qual params body scope dV kV doc pm an cdv ct), osl⟩) (hcd : PySem.W.codeIn K cdv qual = true) (S : FnScope N ps scope)
    (len : ∀ vs H Q E, sp vs H Q E → vs.length = ps.length)
    (hbody : ∀ (A : Around) (outer : List Env) (s : Shared) (H : Hp) (vs : List V) (Q : VK) (E : XK), Room k (A.deeper (envOfC qual scope s.heap.objs.size f cdv)) → sp vs H Q E →
      ∃ t, PSs (cxOf CX P w K mg base N qual scope f cdv A outer s H E) body t ∧ t { nx := fun _ H' => Q .non H', rt := Q } (start N vs) H) :
    FnOk P w K mg base CX (k + 1) f (PySem.W.fnOf name qual params body scope dV kV doc pm an cdv ct) ps sp := by
  refine ⟨len, fun A outer s H args us vs Q E hr e0 hb r hsp => ?_⟩
  have hl := len _ _ _ _ hsp
  have KX : K.In s.heap := e0.mod.kin.keeps fun b o e => (e0.bs b o e).1
  have lim : s.heap.NoLimit := e0.mod.nolimit.keeps fun b o e => (e0.bs b o e).1
  have hkind : ∀ y ∈ ps.zip us, scope.names.lookup y.1 = some .local ∨ (scope.names.lookup y.1 = some .cell ∧ ((cellsFrom (s.heap.objs.size + 1) scope.names []).lookup y.1).isSome = true) := fun ⟨n, v⟩ hy => by
    rcases S.par n (List.of_mem_zip hy).1 with q | q
    · exact .inl q
    · exact .inr ⟨q, PySem.W.cellsFrom_some _ _ _ (.inl q)⟩
  refine codeAny_call_function hr.depth (KX _ _ lk) rfl S.co S.gen rfl (PySem.W.codeRec_of KX hcd) (hb _ _ _ _ ?_)
  refine wpAny_newFunctionEnv_cells S.kind hkind fun env he s1 x => ?_
  subst he
  refine ⟨lim.keeps x.toInCall.keep, codeAny_func ?_⟩
  obtain ⟨t, ht, hq⟩ := hbody A outer s H vs Q E (hr.deeper _) hsp
  have I : Inv (cxOf CX P w K mg base N qual scope f cdv A outer s H E) [] (start N vs) H s1 := inv_start S hr.hd e0 hl r x
  refine wpAny_mono (ht [] s1 (start N vs) H _ I hq) (fun fl s' hs => ?_) fun e s' hs => hs
  have fin : ∀ {σ' : St} {H' : Hp} {v : V} {u : Value}, Inv (cxOf CX P w K mg base N qual scope f cdv A outer s H E) [] σ' H' s' → RelV v u → Q v H' → CE outer P w H s Q u s' :=
    fun {σ' H' v u} J rv q => ⟨v, H', J.os, J.bare, J.base, J.hok, rv, q⟩
  cases fl with
  | ret u =>
    obtain ⟨v, σ', H', J, rv, q⟩ := hs
    exact fin J rv q
  | next =>
    obtain ⟨σ', H', J, q⟩ := hs
    exact fin (v := V.non) (u := Value.none) J rfl q
  | brk =>
    obtain ⟨_, _, _, q⟩ := hs
    exact False.elim q
  | cont =>
    obtain ⟨_, _, _, q⟩ := hs
    exact False.elim q
end L2
namespace L2
open PySem PySem.Spec PyProof.Rows
section
variable {X : Cx} {x : Str} {p pos : Pos} {e : Expr} {es : List Expr} {t : TA} {id T : String} {r : List V → Hp → VK → Prop}
def tCB (r : List V → Hp → VK → Prop) (t : TA) : TE := fun σ H Q => t σ H fun vs H1 => r vs H1 Q
theorem pe_callB (hc : CallR X (.builtin id) r) (hg : Gl X x) (hm : X.mg x = none) (hv : bootBuiltins x = some (.builtin id)) (ha : PA X (e :: es) t) (hn : x ≠ "__name__" := by decide) (hdb : (x == ("__debug__" : Str)) = false := by decide)
    (he : starEach (e :: es) X.env = (false, eval e X.env) :: starEach es X.env := by rfl) (hpl : (backTo pos (starEach es X.env)).any (·.1) = false := by rfl) : PE X (.Call (.Name x p) (e :: es) [] pos) (tCB r t) := by
  intro pins s σ H Q I h
  refine wpAny_Call_Name_kw (ld_blt I hg hm hv ?_ hn hdb)
  exact PyProof.Rows.callWith_builtin1 (thn (ha pos pins s σ H _ I h) fun us s1 ⟨vs, H1, I1, r1, q1⟩ => hc pins s1 σ H1 vs us Q I1 r1 q1) he hpl
theorem pe_callTy (hc : CallR X (.type T) r) (hg : Gl X x) (hm : X.mg x = none) (hv : bootBuiltins x = some (.type T)) (ha : PA X (e :: es) t) (hn : x ≠ "__name__" := by decide) (hdb : (x == ("__debug__" : Str)) = false := by decide)
    (he : starEach (e :: es) X.env = (false, eval e X.env) :: starEach es X.env := by rfl) (hpl : (backTo pos (starEach es X.env)).any (·.1) = false := by rfl) : PE X (.Call (.Name x p) (e :: es) [] pos) (tCB r t) := by
  intro pins s σ H Q I h
  refine wpAny_Call_Name_kw (ld_blt I hg hm hv ?_ hn hdb)
  exact PyProof.Rows.callWith_type1 (thn (ha pos pins s σ H _ I h) fun us s1 ⟨vs, H1, I1, r1, q1⟩ => hc pins s1 σ H1 vs us Q I1 r1 q1) he hpl
end
end L2
namespace HT
open PySem PyProof.Rows
section
open PySem.SeqAt
open PySem.AutoSeq1 (wpAny_loadPart')
open PySem.MeetsSeq PySem.MeetsSeq2 PySem.MeetsSeq3
end
section
variable {prog : Program} {w : World} {A : Around} {E : Value → Shared → Prop} {s : Shared}
def sIx (n d : Nat) : Option Int → Nat
  | none => d
  | some v => if v < 0 then (v + (n : Int)).toNat else min v.toNat n
theorem sIx_none (n d : Nat) : sIx n d none = d := rfl
theorem sIx_nat (n d k : Nat) : sIx n d (some (k : Int)) = min k n := by
  show (if (k : Int) < 0 then ((k : Int) + (n : Int)).toNat else min (k : Int).toNat n) = min k n
  rw [if_neg (by omega), Int.toNat_natCast]
end
end HT
namespace L2
open PySem PySem.Spec PyProof.Rows
abbrev TO := St → Hp → (Option Int → Hp → Prop) → Prop
def PO (X : Cx) (e : Option Expr) (t : TO) : Prop :=
  ∀ (pins : List (Addr × Obj)) (s : Shared) (σ : St) (H : Hp) (Q : Option Int → Hp → Prop), Inv X pins σ H s → t σ H Q →
    wpAny (model X.prog X.w) X.A (evalPart e X.env) (fun u s' => ∃ o H', Inv X pins σ H' s' ∧ IsPart u o ∧ Q o H') X.xe s
def tNoPart : TO := fun _ H Q => Q none H
def tPart (t : TE) : TO := fun σ H Q => t σ H fun x H1 => ∃ i, x = .int i ∧ Q (some i) H1
section
variable {X : Cx} {e : Expr} {te : TE} {lo hi : Option Expr} {tl th : TO} {pos p2 : Pos}
theorem po_none : PO X none tNoPart := by
  intro pins s σ H Q I h
  rw [evalPart_none]
  exact wpAny_pure ⟨none, H, I, .none, h⟩
theorem po_some (h : PE X e te) : PO X (some e) (tPart te) := by
  intro pins s σ H Q I hw
  rw [evalPart_some]
  refine thn (h pins s σ H _ I hw) fun u s1 ⟨x, H1, I1, r1, q1⟩ => ?_
  obtain ⟨i, rfl, q⟩ := q1
  obtain ⟨t, rfl⟩ := r1
  exact ⟨some i, H1, I1, .int i t, q⟩
def SlR (X : Cx) (r : V → Option Int → Option Int → Hp → VK → Prop) : Prop :=
  ∀ (pins : List (Addr × Obj)) (s : Shared) (σ : St) (H : Hp) (x : V) (v vl vu : Value) (lo hi : Option Int) (sl : Addr) (Q : VK), Inv X pins σ H s → RelV x v → s.heap.IsSliceOf sl vl vu .none → IsPart vl lo → IsPart vu hi → r x lo hi H Q →
    ∃ T id, typeLookup (.type T) "__getitem__" = pure (some (.builtin id)) ∧ s.TypeIs v T ∧ wpAny (model X.prog X.w) X.A (getItem v (.ref sl)) (EP X pins σ Q) X.xe s
def tSl (r : V → Option Int → Option Int → Hp → VK → Prop) (te : TE) (tl th : TO) : TE := fun σ H Q => te σ H fun x H1 => tl σ H1 fun l H2 => th σ H2 fun u H3 => r x l u H3 Q
theorem pe_slice {r : V → Option Int → Option Int → Hp → VK → Prop} (hr : SlR X r) (he : PE X e te) (hl : PO X lo tl) (hu : PO X hi th) : PE X (.Subscript e (.Slice lo hi none p2) pos) (tSl r te tl th) := by
  intro pins s σ H Q I h
  refine Subscript_ (thn (he pins s σ H _ I h) fun v s1 ⟨x, H1, I1, r1, q1⟩ => ?_)
  refine wpAny_Slice (thn (hl pins s1 σ H1 _ I1 q1) fun vl s2 ⟨l, H2, I2, pl, q2⟩ => thn (hu pins s2 σ H2 _ I2 q2) fun vu s3 ⟨u, H3, I3, pu, q3⟩ => ?_)
  rw [evalPart_none]
  refine wpAny_pure ?_
  have I4 : Inv X pins σ H3 { s3 with heap := s3.heap.push { cls := .type "slice", data := .fields #[vl, vu, .none] } } := I3.kept (t' := s3.toks) fun b ob q => Heap.get?_push_of_some _ q
  obtain ⟨T, id, hT, ht, hg⟩ := hr pins { s3 with heap := s3.heap.push { cls := .type "slice", data := .fields #[vl, vu, .none] } } σ H3 x v vl vu l u s3.heap.objs.size Q I4 r1 (Heap.IsSliceOf.new ..) pl pu q3
  show wpAny (model X.prog X.w) X.A (subscriptTail e (.Slice lo hi none p2) v (.ref s3.heap.objs.size)) (EP X pins σ Q) X.xe { s3 with heap := s3.heap.push { cls := .type "slice", data := .fields #[vl, vu, .none] } }
  exact tail_any (ops := [.ref s3.heap.objs.size, v]) ht hT hg (by with_unfolding_all rfl)
def cutV (xs : List V) (lo hi : Option Int) : List V := (xs.drop (HT.sIx xs.length 0 lo)).take (HT.sIx xs.length xs.length hi - HT.sIx xs.length 0 lo)
theorem cutV_length (xs : List V) (lo hi : Option Int) : (cutV xs lo hi).length ≤ xs.length := by
  unfold cutV
  rw [List.length_take, List.length_drop]
  omega
end
end L2
namespace L2
open PySem PySem.Spec PyProof.Rows
def ixN (n : Nat) (i : Int) : Option Nat := if 0 ≤ i then (if i < n then some i.toNat else none) else if -(n : Int) ≤ i then some (i + n).toNat else none
def atI {α : Type} (xs : List α) (i : Int) : Option α := (ixN xs.length i).bind fun j => xs[j]?
theorem ixN_seq {n : Nat} {i : Int} {j : Nat} (h : ixN n i = some j) : seqIndex? i n = some j ∧ j < n ∧ -(n : Int) ≤ i ∧ i < n := by
  unfold ixN at h
  by_cases h0 : 0 ≤ i
  · rw [if_pos h0] at h
    by_cases h1 : i < n
    · rw [if_pos h1] at h
      have e : i.toNat = j := Option.some.inj h
      exact ⟨by rw [seqIndex_of h0 h1, e], by omega, by omega, h1⟩
    · rw [if_neg h1] at h; cases h
  · rw [if_neg h0] at h
    by_cases h1 : -(n : Int) ≤ i
    · rw [if_pos h1] at h
      have e : (i + n).toNat = j := Option.some.inj h
      exact ⟨by rw [seqIndex_neg (by omega) h1, e], by omega, h1, by omega⟩
    · rw [if_neg h1] at h; cases h
theorem atI_get {α : Type} {xs : List α} {i : Int} {v : α} (h : atI xs i = some v) : ∃ j, seqIndex? i xs.length = some j ∧ xs[j]? = some v ∧ j < xs.length ∧ -(xs.length : Int) ≤ i ∧ i < xs.length := by
  unfold atI at h
  cases e : ixN xs.length i with
  | none => rw [e] at h; cases h
  | some j =>
    rw [e] at h
    obtain ⟨h1, h2, h3, h4⟩ := ixN_seq e
    exact ⟨j, h1, h, h2, h3, h4⟩
theorem atI_nat {α : Type} {xs : List α} {j : Nat} {v : α} (h : xs[j]? = some v) : atI xs (j : Int) = some v := by
  have hj : j < xs.length := (List.getElem?_eq_some_iff.mp h).1
  have e : ixN xs.length (j : Int) = some j := by
    unfold ixN
    rw [if_pos (by omega), if_pos (by omega)]; simp
  unfold atI; rw [e]; exact h
theorem atI_last {α : Type} (xs : List α) (v : α) : atI (xs ++ [v]) (-1) = some v := by
  have hl : (xs ++ [v]).length = xs.length + 1 := by simp
  have e : ixN (xs ++ [v]).length (-1) = some xs.length := by
    unfold ixN
    rw [hl, if_neg (by decide), if_pos (by omega)]
    congr 1
    omega
  unfold atI
  rw [e]
  show (xs ++ [v])[xs.length]? = some v
  simp
def PlainIx (b : Expr) : Prop := ∀ o i, subscripted b false o i = operate [o, i] (getItem o i)
def IxR (X : Cx) (r : R2) : Prop :=
  ∀ (value slice : Expr) (pins : List (Addr × Obj)) (s : Shared) (σ : St) (H : Hp) (x y : V) (v u : Value) (Q : VK), Inv X pins σ H s → RelV x v → RelV y u → r x y H Q →
    subscripted slice false v u = operate [v, u] (getItem v u) → wpAny (model X.prog X.w) X.A (subscriptTail value slice v u) (EP X pins σ Q) X.xe s
def MtR (X : Cx) (id : String) (r : V → List V → Hp → VK → Prop) : Prop :=
  ∀ (pins : List (Addr × Obj)) (s : Shared) (σ : St) (H : Hp) (x : V) (xs : List V) (v : Value) (us : List Value) (Q : VK), Inv X pins σ H s → RelV x v → Vals xs us → r x xs H Q →
    wpAny (model X.prog X.w) X.A (call (.builtin id) (v :: us)) (EP X pins σ Q) X.xe s
section
variable {X : Cx} {a b : Expr} {ta tb : TE} {pos : Pos}
theorem pe_ix {r : R2} (hr : IxR X r) (ha : PE X a ta) (hb : PE X b tb) (hs : PlainIx b) : PE X (.Subscript a b pos) (tOp r ta tb) := by
  intro pins s σ H Q I h
  exact Subscript_ (binT ha hb I h fun v u s2 x y H2 I2 rx ry q => hr a b pins s2 σ H2 x y v u Q I2 rx ry q (hs _ _))
def rIxL (K : PySem.W.Frag) : R2 := fun x y H Q => ∃ p xs i v, x = .ref p ∧ y = .int i ∧ SqL K H p xs ∧ atI xs i = some v ∧ Q v H
def rIxT (K : PySem.W.Frag) : R2 := fun x y H Q => ∃ p xs i v, x = .ref p ∧ y = .int i ∧ SqT K H p xs ∧ atI xs i = some v ∧ Q v H
theorem ix_list : IxR X (rIxL X.K) := by
  intro value slice pins s σ H x y v u Q I rx ry h hs
  obtain ⟨p, xs, i, z, rfl, rfl, hq, he, q⟩ := h
  cases rx
  obtain ⟨t, rfl⟩ := ry
  obtain ⟨its, r, pl, hz⟩ := I.list hq
  obtain ⟨j, h1, h2, h3, h4, h5⟩ := atI_get he
  obtain ⟨w, ew, rw'⟩ := r.get h2
  have hl := r.length
  have hn := line63
  have fin : EP X pins σ Q w s := ⟨z, H, I, rw', q⟩
  by_cases h0 : 0 ≤ i
  · have hj : i.toNat = j := by
      rw [seqIndex_of h0 h5] at h1
      exact Option.some.inj h1
    exact item_listR pl.isList h0 (by omega) (by rw [hj]; simpa using ew) fin hs
  · have hj : (i + (its.toArray.size : Int)).toNat = j := by
      rw [seqIndex_neg (by omega) h4] at h1
      rw [List.size_toArray, ← hl]
      exact Option.some.inj h1
    exact subscriptTail_builtinR (x := w) pl.isList.typeIs slot_list_getitem.lookup
      (wpAny_getItem_list_neg (Q := fun r s' => r = w ∧ EP X pins σ Q r s') pl.isList (by omega) (by rw [List.size_toArray] <;> omega) (by omega) (by rw [hj]; simpa using ew) ⟨rfl, fin⟩) hs
theorem ix_tup : IxR X (rIxT X.K) := by
  intro value slice pins s σ H x y v u Q I rx ry h hs
  obtain ⟨p, xs, i, z, rfl, rfl, hq, he, q⟩ := h
  cases rx
  obtain ⟨t, rfl⟩ := ry
  obtain ⟨its, r, pl, hz⟩ := I.tuple hq
  obtain ⟨j, h1, h2, h3, h4, h5⟩ := atI_get he
  obtain ⟨w, ew, rw'⟩ := r.get h2
  have hl := r.length
  have hn := line63
  have fin : EP X pins σ Q w s := ⟨z, H, I, rw', q⟩
  exact subscriptTail_builtinR (x := w) pl.typeIs slot_tuple_getitem.lookup
    (getItem_tuple (j := j) (Q := fun r s' => r = w ∧ EP X pins σ Q r s') pl (by omega) (by omega) (by rw [List.size_toArray, ← hl]; exact h1) (by simpa using ew) ⟨rfl, fin⟩) hs
theorem mapSeq_set (its : List Value) (n j : Nat) (u : Value) : Obj.mapSeq (·.setIfInBounds j u) { cls := .type "list", data := .seq its.toArray n } = { cls := .type "list", data := .seq (its.set j u).toArray n } := by
  simp [Obj.mapSeq]
theorem Inv.lst {pins : List (Addr × Obj)} {σ : St} {H : Hp} {s : Shared} {p : Addr} {xs : List V} (I : Inv X pins σ H s) (h : H p = some (.lst xs)) :
    ∃ (its : List Value) (n : Nat), Vals xs its ∧ s.heap.get? p = some { cls := .type "list", data := .seq its.toArray n } ∧ xs.length ≤ sizeLine := by
  obtain ⟨z, its, n, r, e⟩ := I.hok p _ h
  exact ⟨its, n, r, e, z⟩
theorem Inv.lstUpd {pins : List (Addr × Obj)} {σ : St} {H : Hp} {s : Shared} {p : Addr} {xs ys : List V} {its its' : List Value} {n n' : Nat} {f : Obj → Obj} (I : Inv X pins σ H s) (h : H p = some (.lst xs))
    (ho : s.heap.get? p = some { cls := .type "list", data := .seq its.toArray n }) (hf : f { cls := .type "list", data := .seq its.toArray n } = { cls := .type "list", data := .seq its'.toArray n' }) (r : Vals ys its') (hz : ys.length ≤ sizeLine) (t : Nat) :
    Inv X pins σ (upd H p (.lst ys)) { s with heap := s.heap.update p f, toks := t } := by
  have e : (s.heap.update p f).get? p = some { cls := .type "list", data := .seq its'.toArray n' } := by
    rw [Heap.get?_update_self f ho (by rw [hf] <;> rfl), hf]
  refine I.write (x := p) (e := p) (by rw [h]; trivial) (.inl rfl) (fun b u hb q => (Heap.get?_update_other _ _ (Ne.symm hb)).trans q) ⟨_, e⟩ ?_
  exact ⟨hz, its', n', r, e⟩
def rSetL : V → V → V → Hp → (Hp → Prop) → Prop := fun o i v H Q => ∃ p xs k j, o = .ref p ∧ i = .int k ∧ H p = some (.lst xs) ∧ ixN xs.length k = some j ∧ Q (upd H p (.lst (xs.set j v)))
theorem set_list : PSet X rSetL := by
  intro pins s σ H o i v ov iv u Q I ro ri rv h
  obtain ⟨p, xs, k, j, rfl, rfl, hp, hj, q⟩ := h
  cases ro
  obtain ⟨t, rfl⟩ := ri
  obtain ⟨its, n, r, ho, hz⟩ := I.lst hp
  obtain ⟨h1, h2, h3, h4⟩ := ixN_seq hj
  have hl := r.length
  have hn := line63
  have I' : Inv X pins σ (upd H p (.lst (xs.set j v))) { s with heap := s.heap.update p (Obj.mapSeq (·.setIfInBounds j u)) } :=
    I.lstUpd hp ho (mapSeq_set its n j u) (r.set rv j) (by rw [List.length_set]; exact hz) s.toks
  by_cases h0 : 0 ≤ k
  · have hk : k.toNat = j := by
      rw [seqIndex_of h0 h4] at h1
      exact Option.some.inj h1
    exact PySem.W.ki_setAt ho h0 (by omega) (by rw [List.size_toArray, ← hl]; exact h4) (by rw [hk]; exact ⟨_, I', q⟩)
  · have hk : (k + (its.toArray.size : Int)).toNat = j := by
      rw [seqIndex_neg (by omega) h3] at h1
      rw [List.size_toArray, ← hl]
      exact Option.some.inj h1
    exact PySem.W.ki_setBack ho (by omega) (by rw [List.size_toArray, ← hl]; exact h3) (by omega) (by rw [hk]; exact ⟨_, I', q⟩)
theorem slice_bounds (lo hi : Option Int) (n : Nat) : (sliceBounds lo hi none n).1 = ((HT.sIx n 0 lo : Nat) : Int) ∧ (sliceBounds lo hi none n).2.1 = ((HT.sIx n n hi : Nat) : Int) ∧ (sliceBounds lo hi none n).2.2 = 1 := by
  refine ⟨?_, ?_, rfl⟩
  · cases lo with
    | none => simp [sliceBounds, HT.sIx]
    | some i =>
      simp only [sliceBounds, HT.sIx, Option.getD_none, show (1 : Int) > 0 by decide, if_true]
      by_cases h : i < 0
      · simp only [h, if_true] <;> omega
      · simp only [h, if_false] <;> omega
  · cases hi with
    | none => simp [sliceBounds, HT.sIx]
    | some i =>
      simp only [sliceBounds, HT.sIx, Option.getD_none, show (1 : Int) > 0 by decide, if_true]
      by_cases h : i < 0
      · simp only [h, if_true] <;> omega
      · simp only [h, if_false] <;> omega
theorem slicePick_cut (its : List Value) (lo hi : Option Int) : slicePick its.toArray lo hi none = ((its.drop (HT.sIx its.length 0 lo)).take (HT.sIx its.length its.length hi - HT.sIx its.length 0 lo)).toArray := by
  obtain ⟨h1, h2, h3⟩ := slice_bounds lo hi its.toArray.size
  unfold slicePick
  rw [h1, h2, h3]
  simp only [sliceRange_one, pick_run, List.size_toArray] <;> rfl
def rSlL (K : PySem.W.Frag) : V → Option Int → Option Int → Hp → VK → Prop := fun x lo hi H Q => ∃ a xs, x = .ref a ∧ SqL K H a xs ∧ ∀ p, H p = none → Q (.ref p) (upd H p (.lst (cutV xs lo hi)))
theorem sl_list : SlR X (rSlL X.K) := by
  intro pins s σ H x v vl vu lo hi sl Q I rx hs pl pu h
  obtain ⟨a, xs, rfl, hx, q⟩ := h
  cases rx
  obtain ⟨its, r, ht, hz⟩ := I.list hx
  have hlen := r.length
  refine ⟨"list", _, slot_list_getitem.lookup, ht.isList.typeIs, ?_⟩
  refine wpAny_getItem_list_slice ht.isList hs pl pu .none (by simp) ?_ (by rw [List.size_toArray] <;> omega)
  rw [slicePick_cut, ← hlen]
  refine ⟨.ref s.heap.objs.size, _, I.laid (t' := s.toks) (o := .lst (cutV xs lo hi)) (fun b ob q => Heap.get?_push_of_some _ q) (Nat.le_refl _) ?_, rfl, q _ (I.hok.fresh (Nat.le_refl _))⟩
  exact ⟨Nat.le_trans (cutV_length xs lo hi) hz, _, 0, (r.drop (HT.sIx xs.length 0 lo)).take (HT.sIx xs.length xs.length hi - HT.sIx xs.length 0 lo), Heap.get?_push_size _ rfl⟩
theorem call_len_seq : CallR X (.builtin "len") (fun xs H Q => ∃ p ys, xs = [.ref p] ∧ (SqL X.K H p ys ∨ SqT X.K H p ys) ∧ Q (.int ys.length) H) := by
  intro pins s σ H xs us Q I r h
  obtain ⟨p, ys, rfl, hq, q⟩ := h
  obtain ⟨u, rfl, rx⟩ := vals1 r
  cases rx
  have hn := line63
  rcases hq with hq | hq
  · obtain ⟨its, r', pl, hz⟩ := I.list hq
    have hlen := r'.length
    exact Calls.call_len_list pl.isList (by simp only [List.size_toArray] <;> omega) ⟨.int ys.length, H, I.tok _, ⟨s.toks + 1, by rw [List.size_toArray, hlen]⟩, q⟩
  · obtain ⟨its, r', pl, hz⟩ := I.tuple hq
    have hlen := r'.length
    exact len_tuple pl (by simp only [List.size_toArray] <;> omega) ⟨.int ys.length, H, I.tok _, ⟨s.toks + 1, by rw [List.size_toArray, hlen]⟩, q⟩
theorem call_list_of : CallR X (.type "list") (fun xs H Q => ∃ p ys, xs = [.ref p] ∧ (SqL X.K H p ys ∨ SqT X.K H p ys) ∧ ∀ l, H l = none → Q (.ref l) (upd H l (.lst ys))) := by
  intro pins s σ H xs us Q I r h
  obtain ⟨p, ys, rfl, hq, q⟩ := h
  obtain ⟨u, rfl, rx⟩ := vals1 r
  cases rx
  have fin : ∀ (its : List Value), Vals ys its → ys.length ≤ sizeLine → ∀ (h' : Heap) (c' : Nat), (∀ b o', s.heap.get? b = some o' → h'.get? b = some o') →
      h'.get? s.heap.objs.size = some { cls := .type "list", dict := none, data := .seq its.toArray c', slots := #[] } → EP X pins σ Q (.ref s.heap.objs.size) { s with heap := h' } := fun its r' hz h' c' kp e =>
    ⟨.ref s.heap.objs.size, _, I.laid (t' := s.toks) kp (Nat.le_refl _) (show ObjOk X.prog X.w _ h' _ (.lst ys) from ⟨hz, its, c', r', e⟩), rfl, q _ (I.hok.fresh (Nat.le_refl _))⟩
  rcases hq with hq | hq
  · obtain ⟨its, r', pl, hz⟩ := I.list hq
    have hlen := r'.length
    obtain ⟨o, ho, hc, n, hd⟩ := pl.isList
    exact call_list_seq p (.inl rfl) ho hc hd (fun h' c' kp e => fin its r' hz h' c' kp e) (by simp only [List.size_toArray] <;> omega)
  · obtain ⟨its, r', pl, hz⟩ := I.tuple hq
    have hlen := r'.length
    obtain ⟨o, ho, hc, n, hd⟩ := pl
    exact call_list_seq p (.inr rfl) ho hc hd (fun h' c' kp e => fin its r' hz h' c' kp e) (by simp only [List.size_toArray] <;> omega)
def tyV (K : PySem.W.Frag) (T : String) (x : V) (H : Hp) : Prop := match x with
  | .str _ => T = "str"
  | .int _ => T = "int"
  | .ref p => (T = "list" ∧ ∃ xs, SqL K H p xs) ∨ (T = "tuple" ∧ ∃ o, K.lookup p = some o ∧ o.cls = .type "tuple" ∧ o.dict = none) ∨
      (T = "dict" ∧ ((∃ kvs, H p = some (.dK kvs)) ∨ ∃ kvs, H p = some (.dT kvs))) ∨ (T = "set" ∧ ∃ S n, H p = some (.set S n))
  | _ => False
theorem tyV_is {pins : List (Addr × Obj)} {σ : St} {H : Hp} {s : Shared} {T : String} {x : V} {v : Value} (I : Inv X pins σ H s) (r : RelV x v) (ty : tyV X.K T x H) :
    s.TypeIs v T ∧ ∀ a, v = .ref a → ∃ ob, s.heap.get? a = some ob ∧ ob.dict = none := by
  cases x with
  | str z =>
    obtain ⟨t, rfl⟩ := r
    cases (show T = "str" from ty)
    exact ⟨typeIs_str s z t, fun _ e => nomatch e⟩
  | int i =>
    obtain ⟨t, rfl⟩ := r
    cases (show T = "int" from ty)
    exact ⟨typeIs_int s i t, fun _ e => nomatch e⟩
  | ref p =>
    cases r
    rcases ty with ⟨rfl, xs, hq⟩ | ⟨rfl, o, hk, hc, hd⟩ | ⟨rfl, hk⟩ | ⟨rfl, S, n, hk⟩
    · obtain ⟨its, _, pl, _⟩ := I.list hq
      refine ⟨pl.isList.typeIs, fun a e => ?_⟩
      cases e
      obtain ⟨o, n, e, c, hd, _⟩ := pl
      exact ⟨o, e, hd⟩
    · refine ⟨⟨o, I.kIn p o hk, hc⟩, fun a e => ?_⟩
      cases e
      exact ⟨o, I.kIn _ o hk, hd⟩
    · have z : ∃ o, s.heap.get? p = some o ∧ o.ExactDict := by
        rcases hk with ⟨kvs, hk⟩ | ⟨kvs, hk⟩
        · obtain ⟨_, _, _, _, o, _, _, e, ex, _⟩ := I.hok p _ hk
          exact ⟨o, e, ex⟩
        · obtain ⟨_, _, _, _, o, _, _, e, ex, _⟩ := I.hok p _ hk
          exact ⟨o, e, ex⟩
      obtain ⟨o, e, ex⟩ := z
      refine ⟨⟨o, e, ex.1⟩, fun a e2 => ?_⟩
      cases e2
      exact ⟨o, e, ex.2.1⟩
    · obtain ⟨o, _, _, _, e, ex, _⟩ := I.hok p _ hk
      refine ⟨⟨o, e, ex.1⟩, fun a e2 => ?_⟩
      cases e2
      exact ⟨o, e, ex.2.1⟩
  | _ => exact False.elim ty
def tBM0 (K : PySem.W.Frag) (T : String) (r : V → List V → Hp → VK → Prop) (to : TE) : TE := fun σ H Q => to σ H fun x H1 => tyV K T x H1 ∧ r x [] H1 Q
def tBM (K : PySem.W.Frag) (T : String) (r : V → List V → Hp → VK → Prop) (to : TE) (t : TA) : TE := fun σ H Q => to σ H fun x H1 => tyV K T x H1 ∧ t σ H1 fun xs H2 => r x xs H2 Q
variable {o e : Expr} {es : List Expr} {to : TE} {t : TA} {name : Str} {apos cpos : Pos} {T id : String} {r : V → List V → Hp → VK → Prop}
theorem pe_bm0 (pa : PlainAttrs T) (slot : Slot T name id) (hty : typeOf (.builtin id) = pure (.type "method_descriptor")) (hm : MtR X id r) (ho : PE X o to)
    (hbase : attributeBase o name X.env (eval o X.env) = eval o X.env := by rfl) (hline : (apos.endLine == cpos.line) = true := by rfl) : PE X (.Call (.Attribute o name apos) [] [] cpos) (tBM0 X.K T r to) := by
  intro pins s σ H Q I h
  refine wpAny_Call_method0_late hbase hline (thn (ho pins s σ H _ I h) fun v s1 ⟨x, H1, I1, r1, ty, q1⟩ => ?_)
  obtain ⟨h1, h2⟩ := tyV_is I1 r1 ty
  exact ⟨T, id, pa, slot, hty, h1, h2, Calls.callWith_builtin rfl (PySem.evalArgs_none (hm pins s1 σ H1 x [] v [] Q I1 r1 .nil q1))⟩
theorem pe_bm (pa : PlainAttrs T) (slot : Slot T name id) (hty : typeOf (.builtin id) = pure (.type "method_descriptor")) (hm : MtR X id r) (ho : PE X o to) (ha : PA X (e :: es) t)
    (hbase : attributeBase o name X.env (eval o X.env) = eval o X.env := by rfl)
    (hfew : ((backTo cpos (starEach (e :: es) X.env)).all (fun x => !x.1) && (backToKw cpos (keywordEach [] X.env)).all (fun x => x.1.isSome)
      && decide ((e :: es).length + ([] : List Keyword).length + (if ([] : List Keyword).isEmpty then 0 else 1) < 30)) = true := by rfl)
    (hline : (apos.endLine == cpos.line) = true := by rfl) (hs : starEach (e :: es) X.env = (false, eval e X.env) :: starEach es X.env := by rfl) (hplain : (backTo cpos (starEach es X.env)).any (·.1) = false := by rfl) :
    PE X (.Call (.Attribute o name apos) (e :: es) [] cpos) (tBM X.K T r to t) := by
  intro pins s σ H Q I h
  refine wpAny_Call_method_late hbase hfew hline rfl (thn (ho pins s σ H _ I h) fun v s1 ⟨x, H1, I1, r1, ty, q1⟩ => ?_)
  obtain ⟨h1, h2⟩ := tyV_is I1 r1 ty
  refine ⟨T, id, pa, slot, hty, h1, h2, ?_⟩
  have hA := ha cpos pins s1 σ H1 _ I1 q1
  rw [hs] at hA ⊢
  refine Calls.callWith_builtin (by show (false || (backTo cpos (starEach es X.env)).any (·.1)) = false; rw [hplain] <;> rfl) (Calls.evalArgs_plain ?_)
  exact thn hA fun us s2 ⟨vs, H2, I2, r2, q2⟩ => hm pins s2 σ H2 x vs v us Q I2 r1 r2 q2
end
end L2
namespace L2
open PySem PySem.Spec PyProof.Rows
def MtM (X : Cx) (id : String) (r : V → List V → Hp → VK → Prop) : Prop :=
  ∀ (pins : List (Addr × Obj)) (s : Shared) (σ : St) (H : Hp) (x : V) (xs : List V) (v : Value) (us : List Value) (Q : VK), Inv X pins σ H s → RelV x v → Vals xs us → r x xs H Q →
    wpAny (model X.prog X.w) X.A (call (.builtin id) (v :: us)) (EP X pins σ Q) X.xe s
theorem Vals.one : ∀ {x : V} {us : List Value}, Vals [x] us → ∃ u, us = [u] ∧ RelV x u
  | _, _, .cons r .nil => ⟨_, rfl, r⟩
theorem Vals.zero : ∀ {us : List Value}, Vals [] us → us = []
  | _, .nil => rfl
theorem Vals.dropLast {xs : List V} {us : List Value} (h : Vals xs us) : Vals xs.dropLast us.dropLast := by
  induction h with
  | nil => exact .nil
  | cons r t ih =>
    cases t with
    | nil => exact .nil
    | cons q t' => exact .cons r ih
theorem Vals.rep {xs : List V} {us : List Value} (h : Vals xs us) : ∀ k : Nat, Vals (List.replicate k xs).flatten (List.replicate k us).flatten
  | 0 => .nil
  | k + 1 => by
    rw [List.replicate_succ, List.replicate_succ, List.flatten_cons, List.flatten_cons]
    exact Vals.append h (Vals.rep h k)
theorem erase_last {α : Type} (l : List α) : l.eraseIdx (l.length - 1) = l.dropLast := by
  induction l with
  | nil => rfl
  | cons a r ih =>
    cases r with
    | nil => rfl
    | cons b r =>
      have e : (a :: b :: r).length - 1 = ((b :: r).length - 1) + 1 := by
        have h1 : (a :: b :: r).length = r.length + 2 := rfl
        have h2 : (b :: r).length = r.length + 1 := rfl
        omega
      rw [e, List.eraseIdx_cons_succ, ih]
      all_goals rfl
theorem foldl_rep (its : List Value) : ∀ (k : Nat) (acc : List Value),
    List.foldl (fun x1 x2 => x1 ++ x2) acc.toArray (List.replicate k its.toArray) = (acc ++ (List.replicate k its).flatten).toArray
  | 0, acc => by simp
  | k + 1, acc => by
    have e : acc.toArray ++ its.toArray = (acc ++ its).toArray := by simp
    have e2 : (acc ++ its) ++ (List.replicate k its).flatten = acc ++ (List.replicate (k + 1) its).flatten := by
      rw [List.replicate_succ, List.flatten_cons, List.append_assoc]
    rw [← e2, ← foldl_rep its k (acc ++ its), ← e, List.replicate_succ, List.foldl_cons]
section
variable {X : Cx} {pins : List (Addr × Obj)} {σ : St} {H : Hp} {s : Shared} {l b : Addr} {xs ys zs : List V}
theorem Inv.lset {its its' : List Value} {n : Nat} {f : Array Value → Array Value} {t' : Nat} (I : Inv X pins σ H s) (hH : H l = some (.lst xs))
    (e : s.heap.get? l = some { cls := .type "list", data := .seq its.toArray n }) (hf : f its.toArray = its'.toArray) (hv : Vals ys its') (hz : ys.length ≤ sizeLine) :
    Inv X pins σ (upd H l (.lst ys)) { s with heap := s.heap.update l (Obj.mapSeq f), toks := t' } := by
  have q := PySem.IsL.update e f
  rw [hf] at q
  refine I.write (x := l) (e := l) (by rw [hH]; exact trivial) (.inl rfl) (fun b' u hb hu => (Heap.get?_update_other s.heap (Obj.mapSeq f) (Ne.symm hb)).trans hu) ⟨_, q⟩ ?_
  exact ⟨hz, its', _, hv, q⟩
theorem Inv.lnew {its : List Value} {t' : Nat} (I : Inv X pins σ H s) (hv : Vals ys its) (hz : ys.length ≤ sizeLine) :
    Inv X pins σ (upd H s.heap.objs.size (.lst ys)) { s with heap := s.heap.push { cls := .type "list", data := .seq its.toArray }, toks := t' } :=
  I.laid (fun _ _ q => Heap.get?_push_of_some _ q) (Nat.le_refl _) ⟨hz, its, 0, hv, Heap.get?_push_size _ rfl⟩
theorem Inv.fresh (I : Inv X pins σ H s) : H s.heap.objs.size = none := I.hok.fresh (Nat.le_refl _)
theorem Inv.lstM (I : Inv X pins σ H s) (hH : H l = some (.lst xs)) : xs.length ≤ sizeLine ∧ ∃ (its : List Value) (n : Nat), Vals xs its ∧ xs.length = its.length ∧ s.heap.get? l = some { cls := .type "list", data := .seq its.toArray n } := by
  obtain ⟨z, its, n, r, e⟩ := I.hok l _ hH
  exact ⟨z, its, n, r, r.length, e⟩
theorem notLongL {n : Nat} (h : n ≤ sizeLine) : Builtin.List.listTooLong n = false := by
  unfold Builtin.List.listTooLong
  exact decide_eq_false (by omega)
end
section
variable {X : Cx}
def rAppend : V → List V → Hp → VK → Prop := fun x vs H Q => ∃ l xs y, x = .ref l ∧ vs = [y] ∧ H l = some (.lst xs) ∧ xs.length < sizeLine ∧ Q .non (upd H l (.lst (xs ++ [y])))
theorem mt_append : MtM X "list.append" rAppend := by
  intro pins s σ H x vs v us Q I rx rv h
  obtain ⟨l, xs, y, rfl, rfl, hH, hz, q⟩ := h
  cases rx
  obtain ⟨u, rfl, ru⟩ := rv.one
  obtain ⟨z, its, n, r, hl, e⟩ := I.lstM hH
  refine call_meets F.slot_list_append ⟨_, e, rfl⟩ F.entry_list_append (F.args_list_append_2 _ _) (PySem.list_append l its.toArray n u (by rw [List.size_toArray]; omega)) ⟨e, ?_⟩
  refine ⟨.non, _, I.lset (its' := its ++ [u]) hH e (by simp) (r.append (.cons ru .nil)) ?_, rfl, q⟩
  rw [List.length_append, List.length_singleton]
  omega
def rExtend : V → List V → Hp → VK → Prop := fun x vs H Q => ∃ l b xs zs, x = .ref l ∧ vs = [.ref b] ∧ H l = some (.lst xs) ∧ H b = some (.lst zs) ∧ xs.length + zs.length ≤ sizeLine ∧ Q .non (upd H l (.lst (xs ++ zs)))
theorem mt_extend : MtM X "list.extend" rExtend := by
  intro pins s σ H x vs v us Q I rx rv h
  obtain ⟨l, b, xs, zs, rfl, rfl, hH, hB, hz, q⟩ := h
  cases rx
  obtain ⟨u, rfl, ru⟩ := rv.one
  cases ru
  obtain ⟨z, its, n, r, hl, e⟩ := I.lstM hH
  obtain ⟨z2, its2, n2, r2, hl2, e2⟩ := I.lstM hB
  have hsz : its.toArray.size + its2.toArray.size ≤ sizeLine := by rw [List.size_toArray, List.size_toArray]; omega
  have hlong : ¬ (!its.toArray.isEmpty && Builtin.List.listTooLong (its.toArray.size + its2.toArray.size)) = true := by
    rw [notLongL hsz, Bool.and_false]
    exact Bool.false_ne_true
  refine call_meets F.slot_list_extend ⟨_, e, rfl⟩ F.entry_list_extend (F.args_list_extend_2 _ _)
    (AutoSeq1.list_extend_list_list_0 l its.toArray n b its2.toArray n2 hlong (by rw [List.size_toArray]; omega) (by omega)) ⟨e, e2, ?_⟩
  refine ⟨.non, _, I.lset (its' := its ++ its2) hH e (by simp) (r.append r2) ?_, rfl, q⟩
  rw [List.length_append]
  omega
def rPop : V → List V → Hp → VK → Prop := fun x vs H Q => ∃ l xs y, x = .ref l ∧ vs = [] ∧ H l = some (.lst xs) ∧ xs[xs.length - 1]? = some y ∧ Q y (upd H l (.lst xs.dropLast))
theorem mt_pop : MtM X "list.pop" rPop := by
  intro pins s σ H x vs v us Q I rx rv h
  obtain ⟨l, xs, y, rfl, rfl, hH, hy, q⟩ := h
  cases rx
  have hus := rv.zero
  subst hus
  obtain ⟨z, its, n, r, hl, e⟩ := I.lstM hH
  obtain ⟨u, hu, ru⟩ := r.get hy
  have hy' : its.toArray[its.toArray.size - 1]? = some u := by
    show its.toArray[its.length - 1]? = some u
    rw [← Array.getElem?_toList, ← hl]
    exact hu
  refine call_meets F.slot_list_pop ⟨_, e, rfl⟩ F.entry_list_pop (F.args_list_pop_1 _) (MeetsSeq.list_pop_last l its.toArray n u hy' (by rw [List.size_toArray]; omega)) ⟨e, ?_⟩
  refine ⟨y, _, I.lset (its' := its.dropLast) hH e ?_ r.dropLast ?_, ru, q⟩
  · show its.toArray.eraseIdxIfInBounds (its.toArray.size - 1) = its.dropLast.toArray
    rw [List.size_toArray, List.eraseIdxIfInBounds_toArray, erase_last]
  · rw [List.length_dropLast]
    omega
def rCat : R2 := fun x y H Q => ∃ l b xs zs, x = .ref l ∧ y = .ref b ∧ H l = some (.lst xs) ∧ H b = some (.lst zs) ∧ xs.length + zs.length ≤ sizeLine ∧ ∀ p, H p = none → Q (.ref p) (upd H p (.lst (xs ++ zs)))
theorem op_cat : OpR X (binaryOp .Add) rCat := by
  intro pins s σ H x y v u Q I rx ry h
  obtain ⟨l, b, xs, zs, rfl, rfl, hH, hB, hz, q⟩ := h
  cases rx
  cases ry
  obtain ⟨z, its, n, r, hl, e⟩ := I.lstM hH
  obtain ⟨z2, its2, n2, r2, hl2, e2⟩ := I.lstM hB
  refine PySem.P.add_list e e2 ?_ (by rw [List.size_toArray, List.size_toArray]; omega)
  have ea : its.toArray ++ its2.toArray = (its ++ its2).toArray := by simp
  rw [ea]
  exact ⟨.ref _, _, I.lnew (t' := s.toks) (r.append r2) (by rw [List.length_append]; omega), rfl, q _ I.fresh⟩
def rRep : R2 := fun x y H Q => ∃ l k xs, x = .ref l ∧ y = .int k ∧ H l = some (.lst xs) ∧ -(2 ^ 63) ≤ k ∧ k < 2 ^ 63 ∧ xs.length * k.toNat ≤ sizeLine ∧
  ∀ p, H p = none → Q (.ref p) (upd H p (.lst (List.replicate k.toNat xs).flatten))
theorem len_rep {α : Type} (xs : List α) (k : Nat) : (List.replicate k xs).flatten.length = k * xs.length := by
  induction k with
  | zero => simp
  | succ k ih => rw [List.replicate_succ, List.flatten_cons, List.length_append, ih, Nat.succ_mul, Nat.add_comm]
theorem op_rep : OpR X (binaryOp .Mult) rRep := by
  intro pins s σ H x y v u Q I rx ry h
  obtain ⟨l, k, xs, rfl, rfl, hH, h1, h2, hz, q⟩ := h
  cases rx
  obtain ⟨t, rfl⟩ := ry
  obtain ⟨z, its, n, r, hl, e⟩ := I.lstM hH
  have hlen : its.toArray.size * k.toNat ≤ sizeLine := by rw [List.size_toArray, ← hl]; exact hz
  have hcap : ¬ its.toArray.size * k.toNat > (2 ^ 63 - 1) / 8 := by
    have : (sizeLine : Nat) ≤ (2 ^ 63 - 1) / 8 := by decide
    omega
  have hfit : ¬ (!Builtin.List.listFitsIndex k) = true := by
    rw [fitsIndex_both h1 h2]
    exact Bool.false_ne_true
  have hlong : ¬ Builtin.List.listTooLong (its.toArray.size * k.toNat) = true := by
    rw [notLongL hlen]
    exact Bool.false_ne_true
  have hnew : List.foldl (fun x1 x2 => x1 ++ x2) #[] (List.replicate (if its.toArray.isEmpty = true then 0 else k.toNat) its.toArray) = (List.replicate k.toNat its).flatten.toArray := by
    have f0 : ∀ m : Nat, List.foldl (fun x1 x2 => x1 ++ x2) #[] (List.replicate m its.toArray) = (List.replicate m its).flatten.toArray := fun m => by
      have := foldl_rep its m []
      rw [List.nil_append] at this
      exact this
    rw [f0]
    cases its with
    | nil => simp
    | cons a r' => rw [if_neg (by simp)]
  refine wpAny_binaryOp_repeat_ref (T := "list") (U := "int") (by decide) ⟨_, e, rfl⟩ (fun s' => typeIs_int s' k t) noFill_list_mul F.fills_int_mul F.slot_int_rmul repeat_list F.slot_int_index.lookup
    (call_meets F.slot_int_rmul (typeIs_int s k t) F.entry_int_rmul (F.args_int_rmul_2 _ _) (int___rmul___int_list k t l its.toArray n)
      ⟨e, rfl, ⟨_, e, rfl⟩, call_meets F.slot_list_mul ⟨_, e, rfl⟩ F.entry_list_mul (F.args_list_mul_2 _ _) (AutoListH.list___mul___list_int_3 l its.toArray n k t hfit hcap hlong) ⟨e, ?_⟩⟩)
  rw [hnew]
  exact ⟨.ref _, _, I.lnew (t' := s.toks) (r.rep k.toNat) (by rw [len_rep, Nat.mul_comm]; exact hz), rfl, q _ I.fresh⟩
end
end L2
namespace L2
open PySem PySem.Spec PyProof.Rows
theorem Vals.ints : ∀ {ns : List Int} {us : List Value}, Vals (ns.map V.int) us → IntsAre us ns
  | [], us, h => by
    rw [List.map_nil] at h
    cases h
    exact IntsAre.nil
  | n :: ns, us, h => by
    rw [List.map_cons] at h
    cases h with
    | cons r t =>
      obtain ⟨k, rfl⟩ := r
      exact IntsAre.cons n k (Vals.ints t)
theorem Vals.ref1 {a : Addr} {us : List Value} (r : Vals [V.ref a] us) : us = [Value.ref a] := by
  cases r with
  | cons r t =>
    cases t
    cases r
    rfl
section
variable {prog : Program} {w : World} {A : Around} {E : Value → Shared → Prop} {s : Shared} {l : Addr} {its : List Value} {ns : List Int} {Q : Value → Shared → Prop}
theorem sum_raw (hh : A.handled = none) (hl : s.heap.IsList l its.toArray) (hi : IntsAre its ns)
    (h : ∀ h' tk t', (∀ b o, s.heap.get? b = some o → h'.get? b = some o) → Q (.int ns.sum t') { s with heap := h', toks := tk }) : wpAny (model prog w) A (call (.builtin "sum") [.ref l]) Q E s := by
  obtain ⟨xs, e⟩ := hi.allInts.items
  have hn : numsOf (intItems xs).toList = ns := by rw [← e]; exact hi.numsOf
  rw [nums_intItems] at hn
  rw [e] at hl
  refine PySem.sum_intListG hh hl fun h' tk t' hk => ?_
  have := h h' tk t' hk
  rw [preSum_eq, List.take_of_length_le (by simp), hn]; exact this
end
section
variable {X : Cx}
def rSum (K : PySem.W.Frag) : List V → Hp → VK → Prop := fun vs H Q => ∃ (a : Addr) (ns : List Int), vs = [V.ref a] ∧ SqL K H a (ns.map V.int) ∧ Q (.int ns.sum) H
theorem cr_sum (hc : X.calm = true) : CallR X (.builtin "sum") (rSum X.K) := by
  intro pins s σ H vs us Q I r h
  obtain ⟨a, ns, rfl, hs, q⟩ := h
  obtain ⟨its, rv, hl, _⟩ := I.list hs
  rw [Vals.ref1 r]
  exact sum_raw (I.ok.hd hc) hl.isList rv.ints fun h' tk t' hk => ⟨.int _, H, I.kept hk, ⟨_, rfl⟩, q⟩
end
end L2
namespace L2
open PySem PySem.Spec PyProof.Rows
abbrev CellAt (h : Heap) (c : Addr) (v : Option Value) : Prop := h.IsCell c v
def relS (scope sc : Scope) : Scope :=
  { scope with names := scope.names.map fun (n, k) => if (k == .free && sc.kind == .function && sc.names.lookup n == some .cell) then (n, .cell) else (n, k) }
def cloFrom (cells : List (Str × Addr)) : List (Str × NameKind) → List (Str × Addr) → List (Str × Addr)
  | [], acc => acc
  | (n, k) :: r, acc => if k == .free then cloFrom cells r ((n, (cells.lookup n).getD 0) :: acc) else cloFrom cells r acc
theorem closure_loop (env : Env) (f : Str × NameKind → List (Str × Addr) → Sem (ForInStep (List (Str × Addr))))
    (hf : ∀ n k c, f (n, k) c = if k == .free then (do let a ← cellOf env n; pure (.yield ((n, a) :: c))) else pure (.yield c)) :
    ∀ (names : List (Str × NameKind)) (acc : List (Str × Addr)), (∀ y ∈ names, y.2 = .free → ∃ c, env.cells.lookup y.1 = some c) → forIn names acc f = pure (cloFrom env.cells names acc)
  | [], acc, _ => by rw [List.forIn_nil]; rfl
  | (n, k) :: r, acc, h => by
    rw [List.forIn_cons, hf]
    have ih := fun acc => closure_loop env f hf r acc fun y hy => h y (List.mem_cons_of_mem _ hy)
    unfold cloFrom
    by_cases hk : (k == NameKind.free) = true
    · rw [if_pos hk, if_pos hk]
      obtain ⟨c, hc⟩ := h (n, k) List.mem_cons_self (by simpa using hk)
      have e : cellOf env n = pure c := by unfold cellOf; rw [hc]
      rw [e]
      have e2 : (env.cells.lookup n).getD 0 = c := by rw [hc]; rfl
      rw [e2]
      exact ih _
    · rw [if_neg hk, if_neg hk]
      exact ih _
theorem closure_ok {scope : Scope} {env : Env} (h : ∀ y ∈ scope.names, y.2 = .free → ∃ c, env.cells.lookup y.1 = some c) : closureFor scope env = pure (cloFrom env.cells scope.names []) := by
  simp only [closureFor]
  rw [closure_loop env _ (fun n k c => rfl) scope.names [] h]
  rfl
theorem mem_lookup {α : Type} : ∀ {l : List (Str × α)} {n : Str} {c : α}, (n, c) ∈ l → ∃ c', l.lookup n = some c'
  | (k, v) :: r, n, c, h => by
    rw [List.lookup_cons]
    cases hb : n == k with
    | true => exact ⟨_, rfl⟩
    | false =>
      rcases List.mem_cons.mp h with e | h
      · cases e; simp at hb
      · exact mem_lookup h
theorem cloFrom_mem {cells : List (Str × Addr)} : ∀ {names : List (Str × NameKind)} {acc : List (Str × Addr)} {n : Str} {c : Addr}, (n, c) ∈ cloFrom cells names acc → (n, c) ∈ acc ∨ ((n, .free) ∈ names ∧ c = (cells.lookup n).getD 0)
  | [], _, _, _, h => .inl h
  | (m, k) :: r, acc, n, c, h => by
    unfold cloFrom at h
    split at h
    · rename_i hk
      have hk : k = .free := by simpa using hk
      rcases cloFrom_mem h with h | ⟨h1, h2⟩
      · rcases List.mem_cons.mp h with e | h
        · cases e; exact .inr ⟨hk ▸ List.mem_cons_self, rfl⟩
        · exact .inl h
      · exact .inr ⟨List.mem_cons_of_mem _ h1, h2⟩
    · rcases cloFrom_mem h with h | ⟨h1, h2⟩
      · exact .inl h
      · exact .inr ⟨List.mem_cons_of_mem _ h1, h2⟩
theorem cloFrom_acc {cells : List (Str × Addr)} : ∀ {names : List (Str × NameKind)} {acc : List (Str × Addr)} {p : Str × Addr}, p ∈ acc → p ∈ cloFrom cells names acc
  | [], _, _, h => h
  | (m, k) :: r, acc, p, h => by
    unfold cloFrom
    split
    · exact cloFrom_acc (List.mem_cons_of_mem _ h)
    · exact cloFrom_acc h
theorem cloFrom_has {cells : List (Str × Addr)} : ∀ {names : List (Str × NameKind)} {acc : List (Str × Addr)} {n : Str}, (n, .free) ∈ names → (n, (cells.lookup n).getD 0) ∈ cloFrom cells names acc
  | (m, k) :: r, acc, n, h => by
    unfold cloFrom
    rcases List.mem_cons.mp h with e | h
    · cases e
      exact cloFrom_acc List.mem_cons_self
    · split
      · exact cloFrom_has h
      · exact cloFrom_has h
theorem cells_mem : ∀ {names : List (Str × NameKind)} {h : Heap} {acc : List (Str × Addr)} {x : Str} {c : Addr}, (x, c) ∈ cellsFrom h.objs.size names acc →
    (x, c) ∈ acc ∨ ((x, .cell) ∈ names ∧ h.objs.size ≤ c ∧ CellAt (pushCells h names) c none)
  | [], _, _, _, _, h => .inl h
  | (n, k) :: r, h, acc, x, c, hm => by
    unfold cellsFrom at hm
    unfold pushCells
    split at hm
    · rename_i hk
      rw [if_pos hk]
      have hk : k = .cell := by simpa using hk
      rw [← Heap.size_push h { cls := .type "cell", data := .cell none }] at hm
      rcases cells_mem hm with hm | ⟨h1, h2, h3⟩
      · rcases List.mem_cons.mp hm with e | hm
        · cases e
          exact .inr ⟨hk ▸ List.mem_cons_self, Nat.le_refl _, _, pushCells_keeps r _ _ _ (Heap.get?_push_size _ rfl), rfl⟩
        · exact .inl hm
      · rw [Heap.size_push] at h2
        exact .inr ⟨List.mem_cons_of_mem _ h1, Nat.le_of_succ_le h2, h3⟩
    · rename_i hk
      rw [if_neg hk]
      rcases cells_mem hm with hm | ⟨h1, h2, h3⟩
      · exact .inl hm
      · exact .inr ⟨List.mem_cons_of_mem _ h1, h2, h3⟩
theorem cells_acc : ∀ {names : List (Str × NameKind)} {n : Nat} {acc : List (Str × Addr)} {p : Str × Addr}, p ∈ acc → p ∈ cellsFrom n names acc
  | [], _, _, _, h => h
  | (m, k) :: r, n, acc, p, h => by
    unfold cellsFrom
    split
    · exact cells_acc (List.mem_cons_of_mem _ h)
    · exact cells_acc h
theorem cells_has : ∀ {names : List (Str × NameKind)} {n : Nat} {acc : List (Str × Addr)} {x : Str}, (x, .cell) ∈ names → ∃ c, (x, c) ∈ cellsFrom n names acc
  | (m, k) :: r, n, acc, x, h => by
    unfold cellsFrom
    rcases List.mem_cons.mp h with e | h
    · cases e
      exact ⟨n, cells_acc List.mem_cons_self⟩
    · split
      · exact cells_has h
      · exact cells_has h
theorem cells_inj : ∀ {names : List (Str × NameKind)} {h : Heap} {acc : List (Str × Addr)} {x y : Str} {c : Addr}, (∀ p ∈ acc, p.2 < h.objs.size) → (∀ x y c, (x, c) ∈ acc → (y, c) ∈ acc → x = y) →
    (x, c) ∈ cellsFrom h.objs.size names acc → (y, c) ∈ cellsFrom h.objs.size names acc → x = y
  | [], _, _, _, _, _, _, hi, h1, h2 => hi _ _ _ h1 h2
  | (n, k) :: r, h, acc, x, y, c, hl, hi, h1, h2 => by
    unfold cellsFrom at h1 h2
    split at h1
    · rename_i hk
      rw [if_pos hk] at h2
      rw [← Heap.size_push h { cls := .type "cell", data := .cell none }] at h1 h2
      refine cells_inj (h := h.push _) (fun p hp => ?_) (fun x y c a b => ?_) h1 h2
      · rw [Heap.size_push]
        rcases List.mem_cons.mp hp with rfl | hp
        · exact Nat.lt_succ_self _
        · exact Nat.lt_succ_of_lt (hl p hp)
      · rcases List.mem_cons.mp a with e | a <;> rcases List.mem_cons.mp b with e' | b
        · cases e; cases e'; rfl
        · cases e; exact absurd (hl _ b) (Nat.lt_irrefl _)
        · cases e'; exact absurd (hl _ a) (Nat.lt_irrefl _)
        · exact hi _ _ _ a b
    · rename_i hk
      rw [if_neg hk] at h2
      exact cells_inj hl hi h1 h2
theorem newEnv_comp {M : Model} {A : Around} {E : Value → Shared → Prop} {s : Shared} {scope : Scope} {globals : Addr} {closure : List (Str × Addr)} {qual : Str} {func : Option Addr} {code : Value} {around : Env} {builtins : Addr} {Q : Env → Shared → Prop}
    (h : Q (newEnv scope s.heap.objs.size globals (cellsFrom (s.heap.objs.size + 1) scope.names closure) qual func code (some around) builtins)
      { s with heap := pushCells (s.heap.push { cls := .type "dict", data := .dict #[] }) scope.names }) :
    wpAny M A (newFunctionEnv scope globals closure [] qual func code (some around) builtins) Q E s := by
  simp only [newFunctionEnv, Option.isSome_some, if_true]
  refine wpAny_bind (wpAny_alloc ?_)
  refine wpAny_bind (wpAny_layCells _ (fun n k c => rfl) scope.names closure _ _ ?_)
  rw [show ({ s with heap := s.heap.push { cls := .type "dict", data := .dict #[] } } : Shared).heap.objs.size = s.heap.objs.size + 1 from Heap.size_push ..]
  rw [List.forIn_nil]
  exact wpAny_bind (wpAny_pure (wpAny_pure h))
theorem lookup_relS {sc : Scope} : ∀ {names : List (Str × NameKind)} {x : Str} {k : NameKind},
    (names.map fun (n, k) => if (k == NameKind.free && sc.kind == .function && sc.names.lookup n == some .cell) then (n, NameKind.cell) else (n, k)).lookup x = some k →
    ∃ k', names.lookup x = some k' ∧ (k = k' ∨ (k' = .free ∧ k = .cell))
  | [], _, _, h => by simp at h
  | (n, k₀) :: r, x, k, h => by
    have ih := @lookup_relS sc r x k
    have h' : List.lookup x ((if (k₀ == NameKind.free && sc.kind == .function && sc.names.lookup n == some .cell) = true then (n, NameKind.cell) else (n, k₀)) :: (r.map _)) = some k := h
    cases hx : x == n with
    | true =>
      simp only [List.lookup_cons, hx]
      by_cases hc : (k₀ == NameKind.free && sc.kind == .function && sc.names.lookup n == some .cell) = true
      · rw [if_pos hc] at h'
        simp only [List.lookup_cons, hx] at h'
        cases h'
        simp only [Bool.and_eq_true, beq_iff_eq] at hc
        exact ⟨k₀, rfl, .inr ⟨hc.1.1, rfl⟩⟩
      · rw [if_neg hc] at h'
        simp only [List.lookup_cons, hx] at h'
        cases h'
        exact ⟨_, rfl, .inl rfl⟩
    | false =>
      simp only [List.lookup_cons, hx]
      by_cases hc : (k₀ == NameKind.free && sc.kind == .function && sc.names.lookup n == some .cell) = true
      · rw [if_pos hc] at h'
        simp only [List.lookup_cons, hx] at h'
        exact ih h'
      · rw [if_neg hc] at h'
        simp only [List.lookup_cons, hx] at h'
        exact ih h'
structure BlkOk (N : List Str) (sc scope : Scope) (own : List (Str × Nat)) : Prop where
  kind : scope.kind = .function
  uniq : ∀ y ∈ scope.names, scope.names.lookup y.1 = some y.2
  ix : ∀ p ∈ own, N[p.2]? = some p.1
  free : ∀ y ∈ scope.names, y.2 = .free → sc.names.lookup y.1 = some .cell ∨ sc.names.lookup y.1 = some .free
  own : ∀ y ∈ scope.names, y.2 = .local ∨ y.2 = .cell → y.1 ∈ own.map (·.1) ∨ y.1 ∉ N
def wipe (σ : St) : List Nat → St
  | [] => σ
  | v :: vs => (wipe σ vs).set v none
theorem wipe_length (σ : St) : ∀ vs : List Nat, (wipe σ vs).length = σ.length
  | [] => rfl
  | v :: vs => by unfold wipe; rw [List.length_set, wipe_length σ vs]
theorem wipe_some {σ : St} {i : Nat} {x : V} : ∀ {vs : List Nat}, (wipe σ vs)[i]? = some (some x) → σ[i]? = some (some x) ∧ i ∉ vs
  | [], h => ⟨h, by simp⟩
  | v :: vs, h => by
    unfold wipe at h
    by_cases hi : v = i
    · subst hi
      by_cases hv : v < (wipe σ vs).length
      · rw [List.getElem?_set_self hv] at h; cases h
      · rw [List.getElem?_eq_none (by simpa using hv)] at h; cases h
    · rw [List.getElem?_set_ne hi] at h
      obtain ⟨h1, h2⟩ := wipe_some h
      exact ⟨h1, by simp only [List.mem_cons, not_or]; exact ⟨fun e => hi e.symm, h2⟩⟩
abbrev Cx.blk (X : Cx) (s : Shared) (H : Hp) (scope : Scope) (cenv : Env) (fp : List Addr) : Cx := { X with s_0 := s, H_0 := H, env := cenv, outer := X.stack, ex := fp, fn := fun x => scope.names.lookup x == some .cell, pn := [], xe := fun _ _ => False }
section
variable {X : Cx} {pins : List (Addr × Obj)} {σ : St} {H : Hp} {s : Shared}
theorem block_start {scope : Scope} {own : List (Str × Nat)} {fp : List Addr} (I : Inv X pins σ H s) (ok : BlkOk X.N X.env.scope scope own) (hN : X.N.Nodup) (hfp : ∀ b ∈ fp, FpOk X pins H b ∧ b < s.heap.objs.size) :
    Inv (X.blk s H scope (compEnvC scope (cellsFrom (s.heap.objs.size + 1) scope.names (cloFrom X.env.cells scope.names [])) s.heap.objs.size X.env) fp) [] (wipe σ (own.map (·.2))) H { s with heap := pushCells (s.heap.push { cls := .type "dict", data := .dict #[] }) scope.names } := by
  have hfree : ∀ y ∈ scope.names, y.2 = .free → ∃ c, X.env.cells.lookup y.1 = some c := fun y hy e => by
    rcases ok.free y hy e with k | k
    · exact I.ok.has _ (.inl k)
    · exact I.ok.has _ (.inr k)
  generalize hcenv : compEnvC scope (cellsFrom (s.heap.objs.size + 1) scope.names (cloFrom X.env.cells scope.names [])) s.heap.objs.size X.env = cenv
  have kp : ∀ b o, s.heap.get? b = some o → (pushCells (s.heap.push { cls := .type "dict", data := .dict #[] }) scope.names).get? b = some o := fun b o e => pushCells_keeps _ _ _ _ (Heap.get?_push_of_some _ e)
  have hL : cenv.locals = s.heap.objs.size := by rw [← hcenv]; rfl
  have hcl : cenv.cells = cellsFrom (s.heap.objs.size + 1) scope.names (cloFrom X.env.cells scope.names []) := by rw [← hcenv]; rfl
  have hsc : cenv.scope = relS scope X.env.scope := by rw [← hcenv]; rfl
  rw [← Heap.size_push s.heap { cls := .type "dict", data := .dict #[] }] at hcl
  have cm : ∀ {y c}, (y, c) ∈ cloFrom X.env.cells scope.names [] → X.env.cells.lookup y = some c ∧ c < s.heap.objs.size := fun {y c} hm => by
    rcases cloFrom_mem hm with hm | ⟨h1, rfl⟩
    · cases hm
    · obtain ⟨c, hc⟩ := hfree _ h1 rfl
      rw [hc]
      obtain ⟨w, z⟩ := I.cell _ _ hc
      exact ⟨rfl, z.lt⟩
  have mem : ∀ {y c}, cenv.cells.lookup y = some c → (X.env.cells.lookup y = some c ∧ c < s.heap.objs.size) ∨ (s.heap.objs.size + 1 ≤ c ∧ CellAt (pushCells (s.heap.push { cls := .type "dict", data := .dict #[] }) scope.names) c none) := fun {y c} e => by
    rw [hcl] at e
    rcases cells_mem (PySem.mem_of_lookup e) with hm | ⟨_, h2, h3⟩
    · exact .inl (cm hm)
    · rw [Heap.size_push] at h2; exact .inr ⟨h2, h3⟩
  have look : ∀ {y}, scope.names.lookup y = some .free → ∃ c, cenv.cells.lookup y = some c ∧ X.env.cells.lookup y = some c := fun {y} hl => by
    have hy : (y, NameKind.free) ∈ scope.names := PySem.mem_of_lookup hl
    obtain ⟨c', e'⟩ := mem_lookup (cells_acc (names := scope.names) (n := (s.heap.push { cls := .type "dict", data := .dict #[] }).objs.size) (cloFrom_has (cells := X.env.cells) (acc := []) hy))
    rw [← hcl] at e'
    refine ⟨c', e', ?_⟩
    rw [hcl] at e'
    rcases cells_mem (PySem.mem_of_lookup e') with hm | ⟨h1, _, _⟩
    · exact (cm hm).1
    · have := ok.uniq _ h1
      rw [hl] at this; cases this
  have okB : (X.blk s H scope cenv fp).Ok := by
    refine ⟨I.ok.mod, by show cenv.scope.kind = _; rw [hsc]; exact ok.kind, by show cenv.globals = _; rw [← hcenv]; exact I.ok.glob, by show cenv.builtins = _; rw [← hcenv]; exact I.ok.blt, by show s.heap.objs.size ≤ cenv.locals; rw [hL]; exact Nat.le_refl _,
      fun y z c e1 e2 => ?_, fun y hy => ?_, fun y c z e => ?_, I.ok.hd, I.ok.frames, .inl rfl, fun b hb => ⟨?_, fun y c e z => ?_⟩, I.bs, Nat.le_trans I.ok.bsz I.sz, fun b o e hb => ?_, fun b hb z => ?_, I.stack, I.stkFree⟩
    · have e1 : cenv.cells.lookup y = some c := e1
      have e2 : cenv.cells.lookup z = some c := e2
      rw [hcl] at e1 e2
      refine cells_inj (fun p hp => ?_) (fun y z c a b => I.ok.inj y z c (cm a).1 (cm b).1) (PySem.mem_of_lookup e1) (PySem.mem_of_lookup e2)
      rw [Heap.size_push]
      exact Nat.lt_succ_of_lt (cm (y := p.1) (c := p.2) hp).2
    · show ∃ c, cenv.cells.lookup y = some c
      have key : ∀ k, cenv.kindOf y = some k → (k = .cell ∨ k = .free) → ∃ c, cenv.cells.lookup y = some c := fun k hk hk' => by
        unfold Env.kindOf at hk
        rw [hsc] at hk
        obtain ⟨k', e, r⟩ := lookup_relS hk
        have : k' = .cell ∨ k' = .free := by
          rcases r with rfl | ⟨rfl, _⟩
          · exact hk'
          · exact .inr rfl
        rcases this with rfl | rfl
        · obtain ⟨c, hm⟩ := cells_has (n := (s.heap.push { cls := .type "dict", data := .dict #[] }).objs.size) (acc := cloFrom X.env.cells scope.names []) (PySem.mem_of_lookup e)
          obtain ⟨c', e'⟩ := mem_lookup hm
          exact ⟨c', by rw [hcl]; exact e'⟩
        · obtain ⟨c, h1, _⟩ := look e
          exact ⟨c, h1⟩
      rcases hy with hy | hy
      · exact key _ hy (.inl rfl)
      · exact key _ hy (.inr rfl)
    · have z : (scope.names.lookup y == some NameKind.cell) = true := z
      have z : scope.names.lookup y = some .cell := by simpa using z
      have e : cenv.cells.lookup y = some c := e
      rw [hcl] at e
      rcases cells_mem (PySem.mem_of_lookup e) with hm | ⟨_, h2, _⟩
      · rcases cloFrom_mem hm with hm | ⟨h1, _⟩
        · cases hm
        · have q := ok.uniq _ h1
          rw [z] at q; cases q
      · rw [Heap.size_push] at h2
        exact Nat.le_of_succ_le h2
    · show b ≠ cenv.locals
      rw [hL]; exact Nat.ne_of_lt (hfp b hb).2
    · have e : cenv.cells.lookup y = some c := e
      rcases mem e with ⟨h1, _⟩ | ⟨h1, _⟩
      · exact (hfp b hb).1.2.2.2.2.1 y c h1 z
      · have h2 : s.heap.objs.size + 1 ≤ b := by rw [← z]; exact h1
        exact absurd (Nat.lt_of_lt_of_le (hfp b hb).2 (Nat.le_of_succ_le h2)) (Nat.lt_irrefl _)
    · rcases (hfp b hb).1.2.2.2.1 with z | z
      · exact I.ok.noex b o e z
      · exact absurd (Nat.lt_of_lt_of_le (Heap.lt_size e) (Nat.le_trans I.ok.bsz z)) (Nat.lt_irrefl _)
    · rcases List.mem_cons.mp (I.stkSub b z) with z | z
      · exact (hfp b hb).1.2.1 z
      · exact (hfp b hb).1.2.2.1 z
  refine ⟨okB, rfl, I.bare, Un.kept kp, ⟨fun _ => none, ?_, fun i y av e1 e2 e3 => ?_⟩, fun y c e => ?_, ?_, fun y c e => ?_, fun p hp => ?_, I.hok.kept kp, by rw [wipe_length]; exact I.len⟩
  · show Heap.Ns _ cenv.locals _
    rw [hL]
    exact Heap.Ns.keeps (Heap.Ns.new ..) fun b o e => pushCells_keeps _ _ _ _ e
  · obtain ⟨e2, hne⟩ := wipe_some e2
    have hfr : scope.names.lookup y = some .free ∧ (cenv.kindOf y = some .cell ∨ cenv.kindOf y = some .free) := by
      have key : ∀ k, cenv.scope.names.lookup y = some k → k = .local ∨ k = .cell ∨ k = .free → scope.names.lookup y = some .free ∧ (cenv.kindOf y = some .cell ∨ cenv.kindOf y = some .free) := fun k hk hk' => by
        have hk0 := hk
        rw [hsc] at hk
        obtain ⟨k', e, r⟩ := lookup_relS hk
        have no : ¬ (k' = .local ∨ k' = .cell) := fun hh => by
          rcases ok.own _ (PySem.mem_of_lookup e) hh with e' | e'
          · obtain ⟨p, hp, hpy⟩ := List.mem_map.mp e'
            have e3 := ok.ix p hp
            have : p.1 = y := hpy
            rw [this] at e3
            exact hne (List.mem_map.mpr ⟨p, hp, nodup_ix hN e3 e1⟩)
          · exact e' (List.mem_of_getElem? e1)
        rcases r with rfl | ⟨rfl, rfl⟩
        · rcases hk' with rfl | rfl | rfl
          · exact absurd (.inl rfl) no
          · exact absurd (.inr rfl) no
          · exact ⟨e, .inr hk0⟩
        · exact ⟨e, .inl hk0⟩
      have e3 : Vis cenv.scope y := e3
      rcases e3 with e3 | e3 | e3
      · exact key _ e3 (.inl rfl)
      · exact key _ e3 (.inr (.inl rfl))
      · exact key _ e3 (.inr (.inr rfl))
    obtain ⟨m, hn, hl⟩ := I.loc
    have hvis : Vis X.env.scope y := (ok.free _ (PySem.mem_of_lookup hfr.1) rfl).elim (fun k => .inr (.inl k)) (fun k => .inr (.inr k))
    obtain ⟨w, r, q⟩ := hl i y av e1 e2 hvis
    refine ⟨w, r, .inr ⟨hfr.2, ?_⟩⟩
    obtain ⟨c, h1, h2⟩ := look hfr.1
    rcases q with ⟨k, _⟩ | ⟨_, c', e', z⟩
    · have k : X.env.scope.names.lookup y = some .local := k
      rcases ok.free _ (PySem.mem_of_lookup hfr.1) rfl with k' | k' <;> rw [show X.env.scope.names.lookup y = _ from k'] at k <;> cases k
    · rw [h2] at e'; cases e'
      exact ⟨c, h1, z.keeps kp⟩
  · have e : cenv.cells.lookup y = some c := e
    rcases mem e with ⟨h1, _⟩ | ⟨_, z⟩
    · obtain ⟨w, z⟩ := I.cell y c h1
      exact ⟨w, z.keeps kp⟩
    · exact ⟨_, z⟩
  · show H cenv.locals = none
    rw [hL]; exact I.hok.fresh (Nat.le_refl _)
  · have e : cenv.cells.lookup y = some c := e
    rcases mem e with ⟨h1, _⟩ | ⟨h1, _⟩
    · exact I.freeC y c h1
    · exact I.hok.fresh (Nat.le_of_succ_le h1)
  · exact absurd (show p ∈ ([] : List (Addr × Obj)) ++ [] from hp) (by simp)
theorem app_ok {E : Value → Shared → Prop} {D : Addr} {xs : List V} {y : V} {v : Value} {Q : Value → Shared → Prop} (I : Inv X pins σ H s) (hD : H D = some (.lst xs)) (hz : xs.length < sizeLine) (r : RelV y v)
    (h : ∀ s', Inv X pins σ (upd H D (.lst (xs ++ [y]))) s' → Q .none s') : wpAny (model X.prog X.w) X.A (call (.builtin "list.append") [.ref D, v]) Q E s := by
  obtain ⟨hz', its, n, ri, e⟩ := I.hok D _ hD
  have hl := ri.length
  refine append_at (hsz := by rw [List.size_toArray]; omega) e fun h' sb ho' => ?_
  refine h { s with heap := h' } (I.write (t' := s.toks) (by rw [hD]; trivial) (.inl rfl) (fun b u hb q => (sb.2 b hb).trans q) ⟨_, ho'⟩ ⟨by rw [List.length_append]; exact hz, its ++ [v], n + 1, ri.append (.cons r .nil), ?_⟩)
  rw [ho']
  simp
def PTs (X : Cx) (ifs : List Expr) (t : TT) : Prop :=
  ∀ (pins : List (Addr × Obj)) (s : Shared) (σ : St) (H : Hp) (Q : Bool → Hp → Prop), Inv X pins σ H s → t σ H Q →
    wpAny (model X.prog X.w) X.A (forIn ifs true fun c r => if r = true then do let ok ← isTrue c X.env (eval c X.env); pure (ForInStep.yield ok) else pure (ForInStep.yield r)) (TP X pins σ Q) X.xe s
def tYes : TT := fun _ H Q => Q true H
theorem pts_nil : PTs X [] tYes := fun _ _ _ H _ I h => wpAny_tests_nil ⟨H, I, h⟩
end
theorem thnF {α : Type} {t : Sem α} {Q Q' : α → Shared → Prop} {M : Model} {A : Around} {E : Value → Shared → Prop} {s : Shared} (h : wpAny M A t Q (fun _ _ => False) s) (hQ : ∀ a s, Q a s → Q' a s) : wpAny M A t Q' E s := wpAny_mono h hQ fun _ _ z => False.elim z
theorem compLoop_any {prog : Program} {w : World} {A : Around} {R : Result → Shared → Prop} {s : Shared} {elt target iter : Expr} {ifs : List Expr} {scope : Scope} {pos : Pos} {it acc : Value} {env : Env} (I : Nat → Shared → Prop)
    (turn : ∀ n s, I n s → wpAny (model prog w) A (pyNext it) (fun r s₁ => match r with
      | none => R (.ok .next) s₁
      | some v => wpAny (model prog w) A (letOwnedTupleGo target it v) (fun _ s₁' => wpAny (model prog w) A (assign target env v) (fun _ s₂ =>
          wpAny (model prog w) A (forIn ifs true fun c r => if r = true then do let ok ← isTrue c env (eval c env); pure (ForInStep.yield ok) else pure (ForInStep.yield r)) (fun ok s₃ =>
            if ok = true then wpAny (model prog w) A (eval elt env) (fun x s₄ =>
              wpAny (model prog w) A (call (.builtin "list.append") [acc, x]) (fun _ s₅ => ∃ m, m < n ∧ I m s₅) (notedBy (model prog w) A env fun e s' => R (.error e) s') s₄) (notedBy (model prog w) A env fun e s' => R (.error e) s') s₃
            else ∃ m, m < n ∧ I m s₃) (notedBy (model prog w) A env fun e s' => R (.error e) s') s₂) (notedBy (model prog w) A env fun e s' => R (.error e) s') s₁') (notedBy (model prog w) A env fun e s' => R (.error e) s') s₁) (notedBy (model prog w) A env fun e s' => R (.error e) s') s)
    (n : Nat) (h : I n s) :
    codeAny (model prog w) A (.compLoop (.ListComp elt [⟨target, iter, ifs, 0⟩] scope pos) 0 it acc env) R s := by
  refine codeAny_loop rfl I (fun n s hI => ?_) n h
  show wpAny _ A ((compTurn (.ListComp elt [⟨target, iter, ifs, 0⟩] scope pos) 0 it acc env).onRaise (fun x => do noteFrame x env; theTreesLotGoes x)) _ _ s
  refine wpAny_noted ?_
  rw [compTurn_list]
  refine wpAny_bind (wpAny_standAt (wpAny_bind (wpAny_mono (turn n s hI) (fun r s₁ h₁ => ?_) fun _ _ h' => h')))
  cases r with
  | none => exact wpAny_pure h₁
  | some v =>
    refine wpAny_bind (wpAny_mono h₁ (fun _ s₁' h₁' => ?_) fun _ _ h' => h')
    refine wpAny_bind (wpAny_mono h₁' (fun _ s₂ h₂ => wpAny_bind (wpAny_mono h₂ (fun ok s₃ h₃ => ?_) fun _ _ h' => h')) fun _ _ h' => h')
    cases ok with
    | false => exact wpAny_pure ⟨rfl, h₃⟩
    | true =>
      exact wpAny_bind (wpAny_bind (wpAny_mono h₃ (fun x s₄ h₄ => wpAny_bind (wpAny_mono h₄ (fun _ s₅ h₅ => wpAny_pure (wpAny_pure ⟨rfl, h₅⟩)) fun _ _ h' => h')) fun _ _ h' => h'))
section
variable {X : Cx}
def tLc (wi : TI) (g : TG) (tt : TT) (te : TE) (vs : List Nat) : TE := fun σ H Q => wi σ H fun J H1 => ∀ D, H1 D = none → ∃ W : Nat → Nat → Hp → Prop, (∃ m, W 0 m (upd H1 D (.lst []))) ∧ ∀ i m H, W i m H →
  (J.stop i H ∧ Q (.ref D) H) ∨ (J.go i H ∧ ∃ Nx : Hp → Prop, (∀ H', Nx H' → ∃ m', m' < m ∧ W (i + 1) m' H') ∧ ∀ x H', J.yld i H x H' → g x (wipe σ vs) H' fun σ2 H2 => wipe σ2 vs = wipe σ vs ∧ tt σ2 H2 fun b H3 =>
    if b = true then te σ2 H3 fun y H4 => ∃ acc, H4 D = some (.lst acc) ∧ acc.length < sizeLine ∧ Nx (upd H4 D (.lst (acc ++ [y]))) else Nx H3)
theorem lc_core {pins : List (Addr × Obj)} {s : Shared} {σ : St} {H : Hp} {Q : VK} {elt tg iter : Expr} {ifs : List Expr} {scope : Scope} {own : List (Str × Nat)} {pos pos' : Pos} {wi : TI} {g : TG} {tt : TT} {te : TE} {use : Option (Value → Sem Unit)} {Qf : Value → Shared → Prop}
    (hc : X.calm = true) (hN : X.N.Nodup) (I : Inv X pins σ H s) (hi : PI X tg iter wi) (ok : BlkOk X.N X.env.scope scope own)
    (hg : ∀ (s : Shared) (H : Hp) (C : Addr) (cl : List (Str × Addr)) (fp : List Addr), PG (X.blk s H scope (compEnvC scope cl C X.env) fp) tg g) (ht : ∀ (s : Shared) (H : Hp) (C : Addr) (cl : List (Str × Addr)) (fp : List Addr), PTs (X.blk s H scope (compEnvC scope cl C X.env) fp) ifs tt)
    (he : ∀ (s : Shared) (H : Hp) (C : Addr) (cl : List (Str × Addr)) (fp : List Addr), PE (X.blk s H scope (compEnvC scope cl C X.env) fp) elt te) (hs : ∀ x, foldedSetIterable iter X.env x = pure x)
    (h : tLc wi g tt te (own.map (·.2)) σ H Q)
    (hRR : ∀ D C s' m H', Inv X pins σ H' s' → Q (.ref D) H' → s'.heap.Ns C m → FpOk X pins H' C → compPost (model X.prog X.w) X.A X.xe use Qf (.ref D) C (.ok .next) s') :
    wpAny (model X.prog X.w) X.A (comprehension (.ListComp elt [⟨tg, iter, ifs, 0⟩] scope pos) scope X.env pos' (newList []) false (eval iter X.env) use) Qf X.xe s := by
  have hfree : ∀ y ∈ scope.names, y.2 = .free → ∃ c, X.env.cells.lookup y.1 = some c := fun y hy e => by
    rcases ok.free y hy e with k | k
    · exact I.ok.has _ (.inl k)
    · exact I.ok.has _ (.inr k)
  refine wpAny_comprehension_free (use := use) rfl hs (closure_ok hfree) ok.kind (fun y hy e => by rw [ok.uniq y hy, e])
    (thn (hi pins s σ H _ I h) fun xv s1 hx => thn hx fun itv s2 h2 => ?_)
  obtain ⟨it, fp, tn, J, H2, e, I2, T, st2, f2, q⟩ := h2
  subst e
  refine wpAny_newObj_type (newEnv_comp ?_) (by show 0 ≤ sizeLine; decide)
  generalize hD : s2.heap.objs.size = D
  have hDn : H2 D = none := I2.hok.fresh (Nat.le_of_eq hD)
  obtain ⟨W, ⟨m0, w0⟩, turn⟩ := q D hDn
  -- the new list
  generalize hs3 : ({ s2 with heap := s2.heap.push { cls := .type "list", data := .seq ([] : List Value).toArray } } : Shared) = s3
  have I3 : Inv X pins σ (upd H2 D (.lst [])) s3 := by
    rw [← hs3]
    refine I2.laid (t' := s2.toks) (fun b o e => Heap.get?_push_of_some _ e) (Nat.le_of_eq hD) ⟨Nat.zero_le _, [], 0, .nil, ?_⟩
    rw [← hD]
    exact Heap.get?_push_size _ rfl
  have h3 : s3.heap = s2.heap.push { cls := .type "list", data := .seq ([] : List Value).toArray } := by rw [← hs3]
  have sz : ∀ b ∈ fp, b < s2.heap.objs.size := fun b hb => by
    obtain ⟨o, e, _⟩ := T.obj _ _ st2 b hb
    exact Heap.lt_size e
  have f3 : ∀ b ∈ fp, FpOk X pins (upd H2 D (.lst [])) b ∧ b < s3.heap.objs.size := fun b hb => by
    have hlt := sz b hb
    refine ⟨⟨?_, (f2 b hb).2⟩, by rw [h3, Heap.size_push]; exact Nat.lt_succ_of_lt hlt⟩
    rw [upd_ne (by rw [← hD]; exact Nat.ne_of_lt hlt)]
    exact (f2 b hb).1
  have st3 : tn 0 s3.heap := T.keep _ _ _ st2 fun b _ o e => by rw [h3]; exact Heap.get?_push_of_some _ e
  have I4 := block_start I3 ok hN f3
  have pg := hg s3 (upd H2 D (.lst [])) s3.heap.objs.size (cellsFrom (s3.heap.objs.size + 1) scope.names (cloFrom X.env.cells scope.names [])) fp
  have pt := ht s3 (upd H2 D (.lst [])) s3.heap.objs.size (cellsFrom (s3.heap.objs.size + 1) scope.names (cloFrom X.env.cells scope.names [])) fp
  have pe := he s3 (upd H2 D (.lst [])) s3.heap.objs.size (cellsFrom (s3.heap.objs.size + 1) scope.names (cloFrom X.env.cells scope.names [])) fp
  show codeAny _ _ (.compStart (.ListComp elt [⟨tg, iter, ifs, 0⟩] scope pos) 0 (.ref it) (.ref D) (compEnvC scope (cellsFrom (s3.heap.objs.size + 1) scope.names (cloFrom X.env.cells scope.names [])) s3.heap.objs.size X.env)) (compPost (model X.prog X.w) X.A X.xe use Qf (.ref D) s3.heap.objs.size) { s3 with heap := pushCells (s3.heap.push { cls := .type "dict", data := .dict #[] }) scope.names }
  have nfp : ∀ b ∈ fp, (upd H2 D (.lst [])) b = none := fun b hb => (f3 b hb).1.1
  generalize hce : compEnvC scope (cellsFrom (s3.heap.objs.size + 1) scope.names (cloFrom X.env.cells scope.names [])) s3.heap.objs.size X.env = ce at I4 pg pt pe ⊢
  have cL : ce.locals = s3.heap.objs.size := by subst hce; rfl
  generalize hH3 : upd H2 D (.lst []) = H3 at I3 I4 pg pt pe w0 nfp f3
  generalize hs4 : ({ s3 with heap := pushCells (s3.heap.push { cls := .type "dict", data := .dict #[] }) scope.names } : Shared) = s4 at I4 ⊢
  have st4 : tn 0 s4.heap := T.keep _ _ _ st3 fun b _ o e => by rw [← hs4]; exact pushCells_keeps _ _ _ _ (Heap.get?_push_of_some _ e)
  have stat : ∀ {σ' : St} {H' : Hp} {s' : Shared}, Inv (X.blk s3 H3 scope ce fp) [] σ' H' s' → (∀ b ∈ fp, H' b = none) → ∀ b ∈ fp, FpOk (X.blk s3 H3 scope ce fp) [] H' b := fun {σ' H' s'} I' hn b hb =>
    ⟨hn b hb, (I'.ok.exf b hb).1, I'.ok.exfs b hb, .inl hb, fun x c e => (I'.ok.exf b hb).2 x c e, fun p hp => absurd (show p ∈ ([] : List (Addr × Obj)) ++ [] from hp) (by simp)⟩
  have loop : codeAny (model X.prog X.w) X.A (.compLoop (.ListComp elt [⟨tg, iter, ifs, 0⟩] scope pos) 0 (.ref it) (.ref D) ce) (compPost (model X.prog X.w) X.A X.xe use Qf (.ref D) s3.heap.objs.size) s4 := by
    refine compLoop_any (fun n s' => ∃ i H', Inv (X.blk s3 H3 scope ce fp) [] (wipe σ (own.map (·.2))) H' s' ∧ tn i s'.heap ∧ (∀ b ∈ fp, H' b = none) ∧ W i n H') ?_ m0 ⟨0, H3, I4, st4, nfp, w0⟩
    rintro n s5 ⟨i, H5, I5, st5, n5, w5⟩
    rcases turn i n H5 w5 with ⟨stop, qq⟩ | ⟨go, Nx, hNx, step⟩
    · have td := T.done (X.blk s3 H3 scope ce fp) rfl rfl rfl hc i [] s5 _ H5 (fun _ _ => False) I5 (stat I5 n5) st5 stop
      refine thnF td fun r s6 ⟨hr, I6⟩ => ?_
      subst hr
      -- back in the def's context
      have I7 : Inv X pins σ H5 s6 := I3.call' (ch := fp) I6.os I6.base I6.hok I6.bare fun b hb => ⟨(f3 b hb).1.2.2.2.1, (f3 b hb).1.2.1, (f3 b hb).1.2.2.2.2.1, (f3 b hb).1.2.2.2.2.2⟩
      have nC : H5 s3.heap.objs.size = none := by
        have z : H5 ce.locals = none := I6.free
        rw [cL] at z
        exact z
      obtain ⟨m, hn, _⟩ := I6.loc
      have hn : s6.heap.Ns ce.locals m := hn
      rw [cL] at hn
      exact hRR D s3.heap.objs.size s6 m H5 I7 qq hn (I3.fpOk (Nat.le_refl _) nC)
    · have ti := T.item (X.blk s3 H3 scope ce fp) rfl rfl rfl hc i [] s5 _ H5 (fun _ _ => False) I5 (stat I5 n5) st5 go
      refine thnF ti fun r s6 ⟨u, hr, h6⟩ => ?_
      subst hr
      refine thnF h6 fun _ s7 ⟨x, H7, I7, r7, y7, st7, n7⟩ => ?_
      have I7' := I7.pinned (stat I7 n7) (T.obj _ _ st7)
      refine thnF (pg _ s7 _ H7 x u _ I7' r7 (step x H7 y7)) fun _ s8 ⟨σ8, H8, I8, hw8, q8⟩ => ?_
      refine thnF (pt _ s8 σ8 H8 _ I8 q8) fun b s9 ⟨H9, I9, q9⟩ => ?_
      -- the turn's end
      have fin : ∀ {s' : Shared} {H' : Hp}, Inv (X.blk s3 H3 scope ce fp) ([] ++ pinsAt fp s7.heap) σ8 H' s' → Nx H' → ∃ m, m < n ∧ ∃ i H', Inv (X.blk s3 H3 scope ce fp) [] (wipe σ (own.map (·.2))) H' s' ∧ tn i s'.heap ∧ (∀ b ∈ fp, H' b = none) ∧ W i m H' := fun {s' H'} I' nx => by
        obtain ⟨m', hm, w'⟩ := hNx H' nx
        have pin' : ∀ b ∈ fp, ∀ o, s7.heap.get? b = some o → s'.heap.get? b = some o ∧ H' b = none := fun b hb o e =>
          let z := I'.pin (b, o) (List.mem_append_right _ (List.mem_append_right _ (mem_pinsAt hb e)))
          ⟨z.1, z.2.1⟩
        have hl : (wipe σ (own.map (·.2))).length = σ8.length := by rw [← hw8, wipe_length]
        refine ⟨m', hm, i + 1, H', (I'.unpinned (pins := [])).weak hl (fun j v e => ?_), T.keep _ _ _ st7 fun b hb o e => (pin' b hb o e).1, fun b hb => ?_, w'⟩
        · rw [← hw8] at e
          exact (wipe_some e).1
        · obtain ⟨o, e, _⟩ := T.obj _ _ st7 b hb
          exact (pin' b hb o e).2
      cases b with
      | false =>
        simp only [Bool.false_eq_true, if_false] at q9 ⊢
        exact fin I9 q9
      | true =>
        simp only [if_true] at q9 ⊢
        refine thnF (pe _ s9 σ8 H9 _ I9 q9) fun z s10 ⟨yv, H10, I10, r10, acc, hD10, hz10, nx⟩ => ?_
        exact app_ok (X := X.blk s3 H3 scope ce fp) I10 hD10 hz10 r10 fun s11 I11 => fin I11 nx
  exact codeAny_compStart_list loop (T.self X.A 0 _ _ _ st4 loop)
theorem pe_lc {elt tg iter : Expr} {ifs : List Expr} {scope : Scope} {own : List (Str × Nat)} {pos : Pos} {wi : TI} {g : TG} {tt : TT} {te : TE} (hc : X.calm = true) (hN : X.N.Nodup) (hi : PI X tg iter wi) (ok : BlkOk X.N X.env.scope scope own)
    (hg : ∀ (s : Shared) (H : Hp) (C : Addr) (cl : List (Str × Addr)) (fp : List Addr), PG (X.blk s H scope (compEnvC scope cl C X.env) fp) tg g) (ht : ∀ (s : Shared) (H : Hp) (C : Addr) (cl : List (Str × Addr)) (fp : List Addr), PTs (X.blk s H scope (compEnvC scope cl C X.env) fp) ifs tt)
    (he : ∀ (s : Shared) (H : Hp) (C : Addr) (cl : List (Str × Addr)) (fp : List Addr), PE (X.blk s H scope (compEnvC scope cl C X.env) fp) elt te) (hs : ∀ x, foldedSetIterable iter X.env x = pure x := by intro _; rfl) :
    PE X (.ListComp elt [⟨tg, iter, ifs, 0⟩] scope pos) (tLc wi g tt te (own.map (·.2))) := by
  intro pins s σ H Q I h
  rw [eval_ListComp]
  refine lc_core hc hN I hi ok hg ht he hs h fun D C s' m H' I' q hn f => ⟨m, hn, fun h'' sb => ?_⟩
  obtain ⟨f0, f1, f2, f3, f4, f5⟩ := f
  exact ⟨.ref D, H', I'.turned (t' := s'.toks) (fun b o hb e => (sb.2 b hb).trans e) f0 f1 f3 f4 f5, rfl, q⟩
end
theorem lc_range {lo : Int} {n : Nat} {g : TG} {tt : TT} {te : TE} {vs : List Nat} {σ : St} {H1 : Hp} {D : Addr} {Qd : Hp → Prop} (Pv : Nat → Hp → Prop) (h0 : Pv 0 (upd H1 D (.lst [])))
    (hs : ∀ i H, i < n → Pv i H → g (.int (lo + i)) (wipe σ vs) H fun σ2 H2 => wipe σ2 vs = wipe σ vs ∧ tt σ2 H2 fun b H3 =>
      if b = true then te σ2 H3 fun y H4 => ∃ acc, H4 D = some (.lst acc) ∧ acc.length < sizeLine ∧ Pv (i + 1) (upd H4 D (.lst (acc ++ [y]))) else Pv (i + 1) H3) (hd : ∀ H, Pv n H → Qd H) :
    ∃ W : Nat → Nat → Hp → Prop, (∃ m, W 0 m (upd H1 D (.lst []))) ∧ ∀ i m H, W i m H →
      ((Itr lo n).stop i H ∧ Qd H) ∨ ((Itr lo n).go i H ∧ ∃ Nx : Hp → Prop, (∀ H', Nx H' → ∃ m', m' < m ∧ W (i + 1) m' H') ∧ ∀ x H', (Itr lo n).yld i H x H' → g x (wipe σ vs) H' fun σ2 H2 => wipe σ2 vs = wipe σ vs ∧ tt σ2 H2 fun b H3 =>
        if b = true then te σ2 H3 fun y H4 => ∃ acc, H4 D = some (.lst acc) ∧ acc.length < sizeLine ∧ Nx (upd H4 D (.lst (acc ++ [y]))) else Nx H3) := by
  refine ⟨fun i m H => m = n - i ∧ i ≤ n ∧ Pv i H, ⟨n, by simp, Nat.zero_le _, h0⟩, ?_⟩
  rintro i m H ⟨rfl, hi, p⟩
  by_cases hlt : i < n
  · refine .inr ⟨hlt, Pv (i + 1), fun H' p' => ⟨n - (i + 1), by omega, rfl, hlt, p'⟩, fun x H' y => ?_⟩
    obtain ⟨e, y⟩ := y
    subst e y
    exact hs i _ hlt p
  · have e : i = n := by omega
    subst e
    exact .inl ⟨Nat.le_refl _, hd H p⟩
theorem lc_list {K : PySem.W.Frag} {a : Addr} {xs : List V} {g : TG} {tt : TT} {te : TE} {vs : List Nat} {σ : St} {H1 : Hp} {D : Addr} {Qd : Hp → Prop} (Pv : Nat → Hp → Prop) (h0 : Pv 0 (upd H1 D (.lst []))) (hl : ∀ i H, i ≤ xs.length → Pv i H → SqL K H a xs)
    (hs : ∀ i x H, xs[i]? = some x → Pv i H → g x (wipe σ vs) H fun σ2 H2 => wipe σ2 vs = wipe σ vs ∧ tt σ2 H2 fun b H3 =>
      if b = true then te σ2 H3 fun y H4 => ∃ acc, H4 D = some (.lst acc) ∧ acc.length < sizeLine ∧ Pv (i + 1) (upd H4 D (.lst (acc ++ [y]))) else Pv (i + 1) H3) (hd : ∀ H, Pv xs.length H → Qd H) :
    ∃ W : Nat → Nat → Hp → Prop, (∃ m, W 0 m (upd H1 D (.lst []))) ∧ ∀ i m H, W i m H →
      ((Itl K a).stop i H ∧ Qd H) ∨ ((Itl K a).go i H ∧ ∃ Nx : Hp → Prop, (∀ H', Nx H' → ∃ m', m' < m ∧ W (i + 1) m' H') ∧ ∀ x H', (Itl K a).yld i H x H' → g x (wipe σ vs) H' fun σ2 H2 => wipe σ2 vs = wipe σ vs ∧ tt σ2 H2 fun b H3 =>
        if b = true then te σ2 H3 fun y H4 => ∃ acc, H4 D = some (.lst acc) ∧ acc.length < sizeLine ∧ Nx (upd H4 D (.lst (acc ++ [y]))) else Nx H3) := by
  refine ⟨fun i m H => m = xs.length - i ∧ i ≤ xs.length ∧ Pv i H, ⟨xs.length, by simp, Nat.zero_le _, h0⟩, ?_⟩
  rintro i m H ⟨rfl, hi, p⟩
  have q := hl i H hi p
  by_cases hlt : i < xs.length
  · refine .inr ⟨⟨xs, xs[i], q, by simp [hlt]⟩, Pv (i + 1), fun H' p' => ⟨xs.length - (i + 1), by omega, rfl, hlt, p'⟩, fun x H' y => ?_⟩
    obtain ⟨e, y⟩ := y
    subst e
    exact hs i x _ (y xs q) p
  · have e : i = xs.length := by omega
    subst e
    exact .inl ⟨⟨xs, q, Nat.le_refl _⟩, hd H p⟩
def blkC (N : List Str) (sc scope : Scope) (own : List (Str × Nat)) : Bool :=
  (match scope.kind with | .function => true | _ => false) && (scope.names.all fun y => decide (scope.names.lookup y.1 = some y.2)) && (own.all fun p => decide (N[p.2]? = some p.1)) &&
    (scope.names.all fun y => match y.2 with
      | .free => (match sc.names.lookup y.1 with | some .cell => true | some .free => true | _ => false)
      | .local => decide (y.1 ∈ own.map (·.1)) || decide (y.1 ∉ N)
      | .cell => decide (y.1 ∈ own.map (·.1)) || decide (y.1 ∉ N)
      | _ => true)
theorem blkOk_by {N : List Str} {sc scope : Scope} {own : List (Str × Nat)} (h : blkC N sc scope own = true) : BlkOk N sc scope own := by
  unfold blkC at h
  simp only [Bool.and_eq_true, List.all_eq_true, decide_eq_true_eq] at h
  obtain ⟨⟨⟨h1, h2⟩, h3⟩, h4⟩ := h
  refine ⟨?_, h2, h3, fun y hy e => ?_, fun y hy e => ?_⟩
  · split at h1
    · assumption
    · cases h1
  · have q := h4 y hy
    simp only [e] at q
    split at q <;> first | exact .inl (by assumption) | exact .inr (by assumption) | cases q
  · have q := h4 y hy
    rcases e with e | e <;> (simp only [e, Bool.or_eq_true, decide_eq_true_eq] at q; exact q)
end L2
namespace L2
open PySem PySem.Spec PyProof.Rows
end L2
namespace L2
open PySem PySem.Spec PyProof.Rows
def NoSl (i : Expr) : Prop := ∀ ov iv, subscripted i false ov iv = operate [ov, iv] (getItem ov iv)
theorem subD_of {prog : Program} {w : World} {A : Around} {E : Value → Shared → Prop} {s : Shared} {env : Env} {value slice : Expr} {pos : Pos} {T id : String} {Q : Value → Shared → Prop}
    (hl : typeLookup (.type T) "__getitem__" = pure (some (.builtin id))) (hs : NoSl slice)
    (h : wpAny (model prog w) A (eval value env) (fun o s₁ => wpAny (model prog w) A (eval slice env) (fun i s₂ => s₂.TypeIs o T ∧ wpAny (model prog w) A (getItem o i) Q E s₂) E s₁) E s) :
    wpAny (model prog w) A (eval (.Subscript value slice pos) env) Q E s := by
  refine Subscript_ (wpAny_mono h (fun o s₁ h₁ => wpAny_mono h₁ (fun i s₂ h₂ => ?_) fun _ _ x => x) fun _ _ x => x)
  obtain ⟨hT, h₂⟩ := h₂
  unfold subscriptTail
  refine wpAny_bind ?_
  rw [getitemInPython_of_ne hT.not_modules]
  refine wpAny_bind (wpAny_specialOf hT hl ?_)
  have fin : wpAny (model prog w) A (subscripted slice false o i) (fun r s₃ => wpAny (model prog w) A (letTemporaryGo value o r >>= fun _ => pure r) Q E s₃) E s₂ := by
    rw [hs o i]
    exact wpAny_operating (wpAny_mono h₂ (fun r s₃ h₃ => wpAny_bind (wpAny_letTemporaryGo (wpAny_pure h₃))) fun _ _ x => x)
  first
    | exact wpAny_pure (wpAny_bind fin)
    | exact wpAny_bind (wpAny_pure (wpAny_bind fin))
    | exact wpAny_bind fin
structure M2 (X : Cx) (o : Expr) (m : Str) (apos : Pos) (e f : Expr) (cpos : Pos) : Prop where
  base : attributeBase o m X.env (eval o X.env) = eval o X.env
  few : ((backTo cpos (starEach [e, f] X.env)).all (fun x => !x.1) && (backToKw cpos (keywordEach [] X.env)).all (fun x => x.1.isSome)
    && decide (([e, f] : List Expr).length + ([] : List Keyword).length + (if ([] : List Keyword).isEmpty then 0 else 1) < 30)) = true
  line : (apos.endLine == cpos.line) = true
  trees : backTo cpos (starEach [e, f] X.env) = [(false, eval e X.env), (false, eval f X.env)]
end L2
namespace L2
open PySem PySem.Spec PyProof.Rows
end L2
namespace L2
open PySem PySem.Spec PyProof.Rows
end L2
section 
namespace Bits
open PySem PyProof.Rows
end Bits
end 
section 
namespace TL
open PySem PySem.Builtin PySem.Builtin.Str PySem.StrLaws
end TL
end 
namespace L2
open PySem PySem.Spec PyProof.Rows
end L2
namespace L2
open PySem PySem.Spec PyProof.Rows
end L2
namespace Att
open PySem PySem.W PySem.Calls PyProof.Rows
end Att
namespace L2
open PySem PySem.Spec PyProof.Rows
end L2
namespace L2
open PySem PySem.Spec PyProof.Rows
end L2
namespace L2
open PySem PySem.Spec PyProof.Rows
def inClass (s : Stmt) (j : Nat) : Stmt := match s with
  | .ClassDef _ _ _ body _ _ _ _ _ _ _ => body.getD j (.Pass ⟨0, 0, 0, 0⟩)
  | _ => .Pass ⟨0, 0, 0, 0⟩
def defArgs (s : Stmt) : Arguments := match s with
  | .FunctionDef _ a _ _ _ _ _ _ _ _ => a
  | _ => { posonlyargs := [], args := [], vararg := none, kwonlyargs := [], kw_defaults := [], kwarg := none, defaults := [] }
def defBody (s : Stmt) : List Stmt := match s with
  | .FunctionDef _ _ b _ _ _ _ _ _ _ => b
  | _ => []
def defScope (s : Stmt) : Scope := match s with
  | .FunctionDef _ _ _ _ _ _ sc _ _ _ => sc
  | _ => { kind := .function, names := [], isGenerator := false, isCoroutine := false }
abbrev CX0 : CXT := fun _ _ _ _ _ _ => False
abbrev E0 : XK := fun _ _ _ => False
theorem pass0 {X : Cx} : Passes CX0 X E0 := fun _ _ _ _ _ _ _ h => h.elim
structure Fun (K : PySem.W.Frag) (x qual : Str) (st : Stmt) (f : Addr) (fd : FuncData) : Prop where
  ex : ∃ (oc : Value) (od : Option Addr) (kV doc pm : Value) (an : Option Addr) (cdv ct : Value) (osl : Array (Option Value)),
    fd = PySem.W.fnOf x qual (defArgs st) (defBody st) (defScope st) .none kV doc pm an cdv ct ∧ K.lookup f = some ⟨oc, od, .func fd, osl⟩ ∧ PySem.W.codeIn K cdv qual = true
  kp : PySem.W.keepIn K (.ref f) = true
section
variable {P : Program} {w : World} {K : PySem.W.Frag} {mg : Str → Option Value} {base : Heap}
theorem Fun.ok {x qual : Str} {st : Stmt} {f : Addr} {fd : FuncData} {N ps : List Str} {k : Nat} {sp : Sp} (F : Fun K x qual st f fd) (S : FnScope N ps (defScope st)) (len : ∀ vs H Q E, sp vs H Q E → vs.length = ps.length)
    (hbody : ∀ (cdv : Value) (A : Around) (outer : List Env) (s : Shared) (H : Hp) (vs : List V) (Q : VK) (E : XK), Room k (A.deeper (envOfC qual (defScope st) s.heap.objs.size f cdv)) → sp vs H Q E →
      ∃ t, PSs (cxOf CX0 P w K mg base N qual (defScope st) f cdv A outer s H E).nox (defBody st) t ∧ t { nx := fun _ H' => Q .non H', rt := Q } (start N vs) H) : FnOk P w K mg base CX0 (k + 1) f fd ps sp := by
  obtain ⟨oc, od, kV, doc, pm, an, cdv, ct, osl, rfl, lk, hcd⟩ := F.ex
  refine fn_of lk hcd S len fun A outer s H vs Q E hr hsp => ?_
  obtain ⟨t, h, q⟩ := hbody cdv A outer s H vs Q E hr hsp
  exact ⟨t, h.nox, q⟩
theorem Fun.binds {x qual : Str} {st : Stmt} {f : Addr} {fd : FuncData} {ps : List Str} (F : Fun K x qual st f fd)
    (h : ∀ (kV doc pm : Value) (an : Option Addr) (cdv ct : Value) (us : List Value), us.length = ps.length → bindArgs (PySem.W.fnOf x qual (defArgs st) (defBody st) (defScope st) .none kV doc pm an cdv ct) ⟨us, []⟩ = pure (ps.zip us)) : Binds K fd ps [] := by
  obtain ⟨oc, od, kV, doc, pm, an, cdv, ct, osl, rfl, lk, hcd⟩ := F.ex
  exact .all (h kV doc pm an cdv ct)
theorem fun_mk {x qual : Str} {st : Stmt} {f : Addr} {oc : Value} {od an : Option Addr} {osl : Array (Option Value)} {kV doc pm cdv ct : Value} (l : K.lookup f = some ⟨oc, od, .func (PySem.W.fnOf x qual (defArgs st) (defBody st) (defScope st) .none kV doc pm an cdv ct), osl⟩)
    (c : PySem.W.codeIn K cdv qual = true) (k : PySem.W.keepIn K (.ref f) = true) : Fun K x qual st f (PySem.W.fnOf x qual (defArgs st) (defBody st) (defScope st) .none kV doc pm an cdv ct) := ⟨⟨oc, od, kV, doc, pm, an, cdv, ct, osl, rfl, l, c⟩, k⟩
end
section
variable {X : Cx}
theorem pv (i : Nat) {x : Str} {pos : Pos} (hN : X.N[i]? = some x := by rfl) (hv : Vis X.env.scope x := by first | exact Or.inl rfl | exact Or.inr (Or.inl rfl) | exact Or.inr (Or.inr rfl)) (hd : (x == ("__debug__" : Str)) = false := by decide)
    (hcd : (x == ("__classdict__" : Str)) = false := by decide) : PE X (.Name x pos) (tVar i) := pe_var hN hv hd hcd
end
theorem iteF {A B : Prop} (h : B) : if false = true then A else B := by
  rw [if_neg Bool.false_ne_true]
  exact h
theorem iteT {A B : Prop} (h : A) : if true = true then A else B := by
  rw [if_pos rfl]
  exact h
theorem ite2 {c A B : Prop} [Decidable c] (h1 : c → A) (h2 : ¬ c → B) : if c then A else B := by
  by_cases h : c
  · rw [if_pos h]
    exact h1 h
  · rw [if_neg h]
    exact h2 h
def Same (H H' : Hp) : Prop := ∀ b o, H b = some o → H' b = some o
theorem Same.refl (H : Hp) : Same H H := fun _ _ h => h
theorem Same.trans {H H1 H2 : Hp} (a : Same H H1) (b : Same H1 H2) : Same H H2 := fun c o h => b c o (a c o h)
theorem Same.free {H H' : Hp} (e : Same H H') {l : Addr} (h : H' l = Option.none) : H l = Option.none := by
  cases q : H l with
  | none => rfl
  | some o =>
    rw [e l o q] at h
    cases h
theorem Same.seq {K : PySem.W.Frag} {H H' : Hp} {a : Addr} {xs : List V} (e : Same H H') (h : SqL K H a xs) : SqL K H' a xs := by
  rcases h with (h | ⟨o, h⟩) | h
  · exact .inl (.inl (e _ _ h))
  · exact .inl (.inr ⟨o, e _ _ h⟩)
  · exact .inr h
theorem at_of {xs : List V} {z : Int} {j : Nat} {v : V} (e : z = (j : Int)) (h : xs[j]? = some v) : atI xs z = some v := by
  rw [e]
  exact atI_nat h
theorem Same.made {H H1 : Hp} {x dx C : Addr} (nx : H x = Option.none) (nd : H dx = Option.none) (k : ∀ b o, (upd (upd H dx (.own x)) x (.ins C dx [])) b = some o → b ≠ x → H1 b = some o) : Same H H1 := fun b o e =>
  k b o (by rw [upd_ne (ne_of_none e nx), upd_ne (ne_of_none e nd)]; exact e) (ne_of_none e nx)
end L2
section
set_option Elab.async false
set_option linter.all false
set_option maxRecDepth 100000
set_option maxHeartbeats 2000000
namespace L2
open PySem PySem.Spec PyProof.Rows
open PySem.W (WData Codec OpenSpec Well WellAll ReadsW ReadsAllW)
mutual

inductive Dw (K : PySem.W.Frag) (H : Hp) : V → WData → Prop
  | non : Dw K H .non .none
  | bl (b : Bool) : Dw K H (.bl b) (.bool b)
  | int (i : Int) : Dw K H (.int i) (.int i)
  | str (x : Str) : Dw K H (.str x) (.str x)
  | byt (b : Array UInt8) : Dw K H (.byt b) (.bytes b.toList)
  | lst {a : Addr} {xs : List V} {ds : List WData} : SqL K H a xs → DwAll K H xs ds → Dw K H (.ref a) (.list ds)
  | tup {a : Addr} {xs : List V} {ds : List WData} : SqT K H a xs → DwAll K H xs ds → Dw K H (.ref a) (.tuple ds)
inductive DwAll (K : PySem.W.Frag) (H : Hp) : List V → List WData → Prop
  | nil : DwAll K H [] []
  | cons {v : V} {vs : List V} {d : WData} {ds : List WData} : Dw K H v d → DwAll K H vs ds → DwAll K H (v :: vs) (d :: ds)
end
theorem dw_ints {K : PySem.W.Frag} {H : Hp} : ∀ ns : List Int, DwAll K H (ns.map V.int) (ns.map WData.int)
  | [] => .nil
  | n :: r => .cons (.int n) (dw_ints r)
theorem ints_dw {K : PySem.W.Frag} {H : Hp} : ∀ (ns : List Int) (xs : List V), DwAll K H xs (ns.map WData.int) → xs = ns.map V.int
  | [], xs, h => by
    cases h
    rfl
  | n :: r, xs, h => by
    cases h with
    | cons h1 h2 =>
      cases h1
      rw [ints_dw r _ h2] <;> rfl
section
variable {P : Program} {w : World} {K : PySem.W.Frag} {H : Hp} {h : Heap} {R : PySem.W.WRecords} {cl : Str → Option Addr}
theorem sqL_at {a : Addr} {xs : List V} (hok : HOk P w H h) (KX : K.In h) (q : SqL K H a xs) : ∃ (its : List Value) (o : Obj) (n : Nat), Vals xs its ∧ h.get? a = some o ∧ o.cls = .type "list" ∧ o.data = .seq its.toArray n := by
  rcases q with q | ⟨o, its, n, e, hc, _, hd, _, hv⟩
  · obtain ⟨_, its, n, hv, e⟩ := (show ObjOk P w H h a (.lst xs) from q.ok hok)
    exact ⟨its, _, n, hv, e, rfl, rfl⟩
  · exact ⟨its.toList, o, n, hv, KX _ _ e, hc, by simp [hd]⟩
theorem sqT_at {a : Addr} {xs : List V} (hok : HOk P w H h) (KX : K.In h) (q : SqT K H a xs) : ∃ (its : List Value) (o : Obj) (n : Nat), Vals xs its ∧ h.get? a = some o ∧ o.cls = .type "tuple" ∧ o.data = .seq its.toArray n := by
  rcases q with q | ⟨o, its, n, e, hc, hd, _, hv⟩
  · obtain ⟨_, its, hv, o, e, hc, n, hd⟩ := (show ObjOk P w H h a (.tup xs) from q.ok hok)
    exact ⟨its, o, n, hv, e, hc, hd⟩
  · exact ⟨its.toList, o, n, hv, KX _ _ e, hc, by simp [hd]⟩
mutual
theorem Dw.reads (hok : HOk P w H h) (KX : K.In h) : ∀ (d : WData) (v : V) (u : Value), Dw K H v d → RelV v u → ∃ as, ReadsW R cl h u d as
  | .none, _, _, x, r => by
    cases x
    cases r
    exact ⟨_, ReadsW.none⟩
  | .bool b, _, _, x, r => by
    cases x
    cases r
    exact ⟨_, ReadsW.bool b⟩
  | .int i, _, _, x, r => by
    cases x
    obtain ⟨t, rfl⟩ := r
    exact ⟨_, ReadsW.int i t⟩
  | .str s, _, _, x, r => by
    cases x
    obtain ⟨t, rfl⟩ := r
    exact ⟨_, ReadsW.str s t⟩
  | .bytes b, _, _, x, r => by
    cases x
    obtain ⟨t, rfl⟩ := r
    exact ⟨_, ReadsW.bytes _ t⟩
  | .list ds, _, _, x, r => by
    cases x with
    | lst hs ha =>
      cases r
      obtain ⟨its, o, n, rv, ho, hc, hd⟩ := sqL_at hok KX hs
      obtain ⟨as, hr⟩ := Dw.readsAll hok KX ds _ its ha rv
      exact ⟨_, ReadsW.list ho hc hd hr⟩
  | .tuple ds, _, _, x, r => by
    cases x with
    | tup hs ha =>
      cases r
      obtain ⟨its, o, n, rv, ho, hc, hd⟩ := sqT_at hok KX hs
      obtain ⟨as, hr⟩ := Dw.readsAll hok KX ds _ its ha rv
      exact ⟨_, ReadsW.tuple ho hc hd hr⟩
  | .float _, _, _, x, _ => by cases x
  | .dict _, _, _, x, _ => by cases x
  | .bytearray _, _, _, x, _ => by cases x
  | .set _, _, _, x, _ => by cases x
  | .frozenset _, _, _, x, _ => by cases x
  | .obj _ _, _, _, x, _ => by cases x
theorem Dw.readsAll (hok : HOk P w H h) (KX : K.In h) : ∀ (ds : List WData) (vs : List V) (us : List Value), DwAll K H vs ds → Vals vs us → ∃ as, ReadsAllW R cl h us ds as
  | [], _, _, x, r => by
    cases x
    cases r
    exact ⟨_, ReadsAllW.nil⟩
  | d :: ds, _, _, x, r => by
    cases x with
    | cons h1 h2 =>
      cases r with
      | cons r1 r2 =>
        obtain ⟨as, q1⟩ := Dw.reads hok KX d _ _ h1 r1
        obtain ⟨bs, q2⟩ := Dw.readsAll hok KX ds _ _ h2 r2
        exact ⟨_, ReadsAllW.cons q1 q2⟩
end
end
mutual

def plW : WData → Bool
  | .none => true
  | .bool _ => true
  | .int _ => true
  | .str _ => true
  | .bytes _ => true
  | .list xs => plWs xs
  | .tuple xs => plWs xs
  | _ => false
def plWs : List WData → Bool
  | [] => true
  | x :: r => plW x && plWs r
end
theorem plWs_map {α : Type} {f : α → WData} (h : ∀ a, plW (f a) = true) : ∀ l : List α, plWs (l.map f) = true
  | [] => rfl
  | x :: r => by
    show (plW (f x) && plWs (r.map f)) = true
    rw [h x, plWs_map h r] <;> rfl
theorem pl_enc : ∀ (c : Codec) (a : c.denote), plW (c.enc a) = true
  | .unit, _ => rfl
  | .bool, _ => rfl
  | .int _ _, _ => rfl
  | .nat _ _, _ => rfl
  | .u8, _ => rfl
  | .bytes _ _, _ => rfl
  | .text _ _ _ _, _ => rfl
  | .list _ _ c, a => plWs_map (fun x => pl_enc c x) a
  | .pair c d, a => by
    show (plW (c.enc a.1) && (plW (d.enc a.2) && true)) = true
    rw [pl_enc c a.1, pl_enc d a.2] <;> rfl
  | .triple c d e, a => by
    show (plW (c.enc a.1) && (plW (d.enc a.2.1) && (plW (e.enc a.2.2) && true))) = true
    rw [pl_enc c a.1, pl_enc d a.2.1, pl_enc e a.2.2] <;> rfl
  | .option c, none => rfl
  | .option c, some x => pl_enc c x
theorem pl_encAll : ∀ (cs : List Codec) (a : Codec.denoteAll cs), plWs (Codec.encAll cs a) = true
  | [], _ => rfl
  | c :: cs, a => by
    show (plW (c.enc a.1) && plWs (Codec.encAll cs a.2)) = true
    rw [pl_enc c a.1, pl_encAll cs a.2] <;> rfl
theorem weight_mem : ∀ {xs : List WData} {d : WData}, d ∈ xs → d.weight ≤ WData.weightAll xs
  | [], d, h => absurd h (by simp)
  | x :: r, d, h => by
    show d.weight ≤ x.weight + 1 + WData.weightAll r
    rcases List.mem_cons.mp h with e | m
    · rw [e]
      omega
    · have z := weight_mem m
      omega
def toV : Value → V
  | .none => .non
  | .bool b => .bl b
  | .int i _ => .int i
  | .str x _ => .str x
  | .bytes b _ => .byt b
  | .ref a => .ref a
  | _ => .non
def OkU (A : List Addr) : Value → Prop
  | .none => True
  | .bool _ => True
  | .int _ _ => True
  | .str _ _ => True
  | .bytes _ _ => True
  | .ref a => a ∈ A
  | _ => False
theorem OkU.mono {A B : List Addr} (h : ∀ a ∈ A, a ∈ B) : ∀ {u : Value}, OkU A u → OkU B u := fun {u} x => by
  cases u with
  | ref a => exact h a x
  | none => trivial
  | bool b => trivial
  | int i t => trivial
  | str s t => trivial
  | bytes b t => trivial
  | _ => exact False.elim x
theorem relV_toV {A : List Addr} {u : Value} (x : OkU A u) : RelV (toV u) u := by
  cases u with
  | ref a => rfl
  | none => rfl
  | bool b => rfl
  | int i t => exact ⟨t, rfl⟩
  | str s t => exact ⟨t, rfl⟩
  | bytes b t => exact ⟨t, rfl⟩
  | _ => exact False.elim x
theorem vals_toV {A : List Addr} : ∀ {vs : List Value}, (∀ u ∈ vs, OkU A u) → Vals (vs.map toV) vs
  | [], _ => .nil
  | u :: r, h => .cons (relV_toV (h u (List.mem_cons_self ..))) (vals_toV fun x hx => h x (List.mem_cons_of_mem _ hx))
def ArgOb (h : Heap) (A : List Addr) (a : Addr) : Prop := ∃ vs : List Value, vs.length ≤ sizeLine ∧ (∀ u ∈ vs, OkU A u) ∧
  (h.get? a = some { cls := .type "list", data := .seq vs.toArray } ∨ h.get? a = some { cls := .type "tuple", data := .seq vs.toArray })
theorem ArgOb.mono {h : Heap} {A B : List Addr} {a : Addr} (k : ∀ a ∈ A, a ∈ B) (x : ArgOb h A a) : ArgOb h B a := by
  obtain ⟨vs, h1, h2, h3⟩ := x
  exact ⟨vs, h1, fun u hu => (h2 u hu).mono k, h3⟩
theorem wellAll_len {P : Params} {h : Heap} : ∀ {vs : List Value} {ds : List WData}, WellAll P h vs ds → vs.length = ds.length
  | _, _, .nil => rfl
  | _, _, .cons _ b => by
    show _ + 1 = _ + 1
    rw [wellAll_len b]
theorem well_list {P : Params} {h : Heap} {v : Value} {ds : List WData} (x : Well P h v (.list ds)) : ∃ (a : Addr) (vs : List Value), v = .ref a ∧ h.get? a = some { cls := .type "list", data := .seq vs.toArray } ∧ WellAll P h vs ds := by
  cases x with
  | list ho hall => exact ⟨_, _, rfl, ho, hall⟩
theorem well_tuple {P : Params} {h : Heap} {v : Value} {ds : List WData} (x : Well P h v (.tuple ds)) : ∃ (a : Addr) (vs : List Value), v = .ref a ∧ h.get? a = some { cls := .type "tuple", data := .seq vs.toArray } ∧ WellAll P h vs ds := by
  cases x with
  | tuple ho hall => exact ⟨_, _, rfl, ho, hall⟩
theorem well_cons {P : Params} {h : Heap} {us : List Value} {d : WData} {ds : List WData} (x : WellAll P h us (d :: ds)) : ∃ (v : Value) (vs : List Value), us = v :: vs ∧ Well P h v d ∧ WellAll P h vs ds := by
  cases x with
  | cons a b => exact ⟨_, _, rfl, a, b⟩
theorem line_of {n : Nat} (h : n ≤ 1048576) : n ≤ sizeLine := Nat.le_trans h (by decide)
section
variable {P : Params} {h : Heap}
mutual
theorem area_one : ∀ (d : WData) (v : Value), Well P h v d → plW d = true → d.weight ≤ 1048576 → ∃ A : List Addr, OkU A v ∧ ∀ a ∈ A, ArgOb h A a
  | .none, _, x, _, _ => by
    cases x
    exact ⟨[], trivial, fun a m => absurd m (by simp)⟩
  | .bool b, _, x, _, _ => by
    cases x
    exact ⟨[], trivial, fun a m => absurd m (by simp)⟩
  | .int i, _, x, _, _ => by
    cases x
    exact ⟨[], trivial, fun a m => absurd m (by simp)⟩
  | .str s, _, x, _, _ => by
    cases x
    exact ⟨[], trivial, fun a m => absurd m (by simp)⟩
  | .bytes b, _, x, _, _ => by
    cases x
    exact ⟨[], trivial, fun a m => absurd m (by simp)⟩
  | .list ds, _, x, p, z => by
    obtain ⟨a, vs, rfl, ho, hall⟩ := well_list x
    have z2 : WData.weightAll ds ≤ 1048576 := z
    obtain ⟨A, h1, h2⟩ := area_all ds _ hall p fun d hd => Nat.le_trans (weight_mem hd) z2
    have k : ∀ b ∈ A, b ∈ a :: A := fun b hb => List.mem_cons_of_mem _ hb
    refine ⟨a :: A, List.mem_cons_self .., fun b hb => ?_⟩
    rcases List.mem_cons.mp hb with e | m
    · rw [e]
      exact ⟨vs, line_of (by rw [wellAll_len hall]; exact Nat.le_trans (PySem.W.length_le_weightAllW ds) z2), fun u hu => (h1 u hu).mono k, .inl ho⟩
    · exact (h2 b m).mono k
  | .tuple ds, _, x, p, z => by
    obtain ⟨a, vs, rfl, ho, hall⟩ := well_tuple x
    have z2 : WData.weightAll ds ≤ 1048576 := z
    obtain ⟨A, h1, h2⟩ := area_all ds _ hall p fun d hd => Nat.le_trans (weight_mem hd) z2
    have k : ∀ b ∈ A, b ∈ a :: A := fun b hb => List.mem_cons_of_mem _ hb
    refine ⟨a :: A, List.mem_cons_self .., fun b hb => ?_⟩
    rcases List.mem_cons.mp hb with e | m
    · rw [e]
      exact ⟨vs, line_of (by rw [wellAll_len hall]; exact Nat.le_trans (PySem.W.length_le_weightAllW ds) z2), fun u hu => (h1 u hu).mono k, .inr ho⟩
    · exact (h2 b m).mono k
  | .float _, _, _, p, _ => Bool.noConfusion (show false = true from p)
  | .dict _, _, _, p, _ => Bool.noConfusion (show false = true from p)
  | .bytearray _, _, _, p, _ => Bool.noConfusion (show false = true from p)
  | .set _, _, _, p, _ => Bool.noConfusion (show false = true from p)
  | .frozenset _, _, _, p, _ => Bool.noConfusion (show false = true from p)
  | .obj _ _, _, _, p, _ => Bool.noConfusion (show false = true from p)
theorem area_all : ∀ (ds : List WData) (vs : List Value), WellAll P h vs ds → plWs ds = true → (∀ d ∈ ds, d.weight ≤ 1048576) → ∃ A : List Addr, (∀ u ∈ vs, OkU A u) ∧ ∀ a ∈ A, ArgOb h A a
  | [], _, x, _, _ => by
    cases x
    exact ⟨[], fun u m => absurd m (by simp), fun a m => absurd m (by simp)⟩
  | d :: ds, _, x, p, z => by
    obtain ⟨v, vs, rfl, x1, x2⟩ := well_cons x
    have q : plW d = true ∧ plWs ds = true := Bool.and_eq_true_iff.mp p
    obtain ⟨A, a1, a2⟩ := area_one d v x1 q.1 (z d (List.mem_cons_self ..))
    obtain ⟨B, b1, b2⟩ := area_all ds vs x2 q.2 fun e he => z e (List.mem_cons_of_mem _ he)
    have kA : ∀ b ∈ A, b ∈ A ++ B := fun b hb => List.mem_append.mpr (.inl hb)
    have kB : ∀ b ∈ B, b ∈ A ++ B := fun b hb => List.mem_append.mpr (.inr hb)
    refine ⟨A ++ B, fun u hu => ?_, fun b hb => ?_⟩
    · rcases List.mem_cons.mp hu with e | m
      · rw [e]
        exact a1.mono kA
      · exact (b1 u m).mono kB
    · rcases List.mem_append.mp hb with m | m
      · exact (a2 b m).mono kA
      · exact (b2 b m).mono kB
end
end
def hoOf (o : Obj) : Option HO := match o.data with
  | .seq vs _ => if (o.cls == Value.type "list") = true then some (.frz o (.lst (vs.toList.map toV))) else some (.frz o (.tup (vs.toList.map toV)))
  | _ => none
def argH (K : PySem.W.Frag) (h : Heap) (A : List Addr) : Hp := fun b => if b ∈ A then (if (K.lookup b).isNone = true then (h.get? b).bind hoOf else none) else none
def OnlyF (H : Hp) : Prop := ∀ b, H b = none ∨ ∃ o u, H b = some (.frz o u)
theorem hoOf_lst (vs : List Value) : hoOf { cls := .type "list", data := .seq vs.toArray } = some (.frz { cls := .type "list", data := .seq vs.toArray } (.lst (vs.map toV))) := by
  show (if (Value.type "list" == Value.type "list") = true then some (HO.frz { cls := .type "list", data := .seq vs.toArray } (.lst (vs.toArray.toList.map toV))) else some (HO.frz { cls := .type "list", data := .seq vs.toArray } (.tup (vs.toArray.toList.map toV)))) = _
  rw [if_pos (beq_self_eq_true _)]
theorem hoOf_tup (vs : List Value) : hoOf { cls := .type "tuple", data := .seq vs.toArray } = some (.frz { cls := .type "tuple", data := .seq vs.toArray } (.tup (vs.map toV))) := by
  show (if (Value.type "tuple" == Value.type "list") = true then some (HO.frz { cls := .type "tuple", data := .seq vs.toArray } (.lst (vs.toArray.toList.map toV))) else some (HO.frz { cls := .type "tuple", data := .seq vs.toArray } (.tup (vs.toArray.toList.map toV)))) = _
  rw [if_neg (by decide)]
section
variable {P : Program} {w : World} {K : PySem.W.Frag} {h : Heap} {A : List Addr}
theorem argH_at {b : Addr} {o : Obj} (hb : b ∈ A) (hk : K.lookup b = none) (e : h.get? b = some o) : argH K h A b = hoOf o := by
  unfold argH
  rw [if_pos hb, hk, if_pos (show (none : Option Obj).isNone = true from rfl), e] <;> rfl
theorem of_argH {b : Addr} {u : HO} (q : argH K h A b = some u) : b ∈ A ∧ K.lookup b = none := by
  unfold argH at q
  by_cases hb : b ∈ A
  · rw [if_pos hb] at q
    cases hk : K.lookup b with
    | none => exact ⟨hb, rfl⟩
    | some o =>
      rw [hk, if_neg (by simp)] at q
      cases q
  · rw [if_neg hb] at q
    cases q
theorem argH_is (ar : ∀ a ∈ A, ArgOb h A a) {b : Addr} {u : HO} (q : argH K h A b = some u) : K.lookup b = none ∧ ∃ vs : List Value, vs.length ≤ sizeLine ∧ (∀ u ∈ vs, OkU A u) ∧
    ((h.get? b = some { cls := .type "list", data := .seq vs.toArray } ∧ u = .frz { cls := .type "list", data := .seq vs.toArray } (.lst (vs.map toV))) ∨
     (h.get? b = some { cls := .type "tuple", data := .seq vs.toArray } ∧ u = .frz { cls := .type "tuple", data := .seq vs.toArray } (.tup (vs.map toV)))) := by
  obtain ⟨hb, hk⟩ := of_argH q
  obtain ⟨vs, h1, h2, h3⟩ := ar b hb
  refine ⟨hk, vs, h1, h2, ?_⟩
  rcases h3 with e | e
  · rw [argH_at hb hk e, hoOf_lst] at q
    exact .inl ⟨e, (Option.some.inj q).symm⟩
  · rw [argH_at hb hk e, hoOf_tup] at q
    exact .inr ⟨e, (Option.some.inj q).symm⟩
theorem argH_only (ar : ∀ a ∈ A, ArgOb h A a) : OnlyF (argH K h A) := fun b => by
  cases q : argH K h A b with
  | none => exact .inl rfl
  | some u =>
    obtain ⟨_, vs, _, _, ⟨_, e⟩ | ⟨_, e⟩⟩ := argH_is ar q
    · exact .inr ⟨_, _, by rw [e]⟩
    · exact .inr ⟨_, _, by rw [e]⟩
theorem argH_ok (ar : ∀ a ∈ A, ArgOb h A a) : HOk P w (argH K h A) h := fun b u q => by
  obtain ⟨_, vs, h1, h2, ⟨e, rfl⟩ | ⟨e, rfl⟩⟩ := argH_is ar q
  · exact ⟨e, by rw [List.length_map]; exact h1, vs, _, vals_toV h2, e⟩
  · exact ⟨e, by rw [List.length_map]; exact h1, vs, vals_toV h2, _, e, rfl, _, rfl⟩
theorem seq_inj {c c' : Value} {vs us : List Value} (e : (some { cls := c, data := .seq vs.toArray } : Option Obj) = some { cls := c', data := .seq us.toArray }) : c = c' ∧ vs = us := by
  have e1 := Option.some.inj e
  have e2 : c = c' := congrArg Obj.cls e1
  have e3 : Data.seq vs.toArray = Data.seq us.toArray := congrArg Obj.data e1
  injection e3 with e4
  refine ⟨e2, ?_⟩
  have e5 := congrArg Array.toList e4
  simpa using e5
theorem argL (KX : K.In h) (ar : ∀ a ∈ A, ArgOb h A a) {a : Addr} {vs : List Value} (ha : a ∈ A) (e : h.get? a = some { cls := .type "list", data := .seq vs.toArray }) : (∀ u ∈ vs, OkU A u) ∧ SqL K (argH K h A) a (vs.map toV) := by
  obtain ⟨us, h1, h2, h3⟩ := ar a ha
  have hu : us = vs := by
    rcases h3 with q | q
    · rw [e] at q
      exact (seq_inj q).2.symm
    · rw [e] at q
      exact absurd (Value.type.inj (seq_inj q).1) (by decide)
  subst hu
  refine ⟨h2, ?_⟩
  cases hk : K.lookup a with
  | none => exact .inl (.inr ⟨_, by rw [argH_at ha hk e, hoOf_lst]⟩)
  | some o =>
    have e2 := KX a o hk
    rw [e] at e2
    obtain rfl := Option.some.inj e2
    exact .inr ⟨_, us.toArray, _, hk, rfl, rfl, rfl, by rw [List.size_toArray]; exact h1, by simpa using vals_toV h2⟩
theorem argT (KX : K.In h) (ar : ∀ a ∈ A, ArgOb h A a) {a : Addr} {vs : List Value} (ha : a ∈ A) (e : h.get? a = some { cls := .type "tuple", data := .seq vs.toArray }) : (∀ u ∈ vs, OkU A u) ∧ SqT K (argH K h A) a (vs.map toV) := by
  obtain ⟨us, h1, h2, h3⟩ := ar a ha
  have hu : us = vs := by
    rcases h3 with q | q
    · rw [e] at q
      exact absurd (Value.type.inj (seq_inj q).1) (by decide)
    · rw [e] at q
      exact (seq_inj q).2.symm
  subst hu
  refine ⟨h2, ?_⟩
  cases hk : K.lookup a with
  | none => exact .inl (.inr ⟨_, by rw [argH_at ha hk e, hoOf_tup]⟩)
  | some o =>
    have e2 := KX a o hk
    rw [e] at e2
    obtain rfl := Option.some.inj e2
    exact .inr ⟨_, us.toArray, _, hk, rfl, rfl, by rw [List.size_toArray]; exact h1, by simpa using vals_toV h2⟩
mutual
theorem dw_one {Pm : Params} (KX : K.In h) (ar : ∀ a ∈ A, ArgOb h A a) : ∀ (d : WData) (v : Value), Well Pm h v d → plW d = true → OkU A v → Dw K (argH K h A) (toV v) d
  | .none, _, x, _, _ => by
    cases x
    exact .non
  | .bool b, _, x, _, _ => by
    cases x
    exact .bl b
  | .int i, _, x, _, _ => by
    cases x
    exact .int i
  | .str s, _, x, _, _ => by
    cases x
    exact .str s
  | .bytes b, _, x, _, _ => by
    cases x
    have z := Dw.byt (K := K) (H := argH K h A) b.toArray
    exact z
  | .list ds, _, x, p, hu => by
    obtain ⟨a, vs, rfl, ho, hall⟩ := well_list x
    obtain ⟨h2, hs⟩ := argL KX ar hu ho
    exact .lst hs (dw_all KX ar ds _ hall p h2)
  | .tuple ds, _, x, p, hu => by
    obtain ⟨a, vs, rfl, ho, hall⟩ := well_tuple x
    obtain ⟨h2, hs⟩ := argT KX ar hu ho
    exact .tup hs (dw_all KX ar ds _ hall p h2)
  | .float _, _, _, p, _ => Bool.noConfusion (show false = true from p)
  | .dict _, _, _, p, _ => Bool.noConfusion (show false = true from p)
  | .bytearray _, _, _, p, _ => Bool.noConfusion (show false = true from p)
  | .set _, _, _, p, _ => Bool.noConfusion (show false = true from p)
  | .frozenset _, _, _, p, _ => Bool.noConfusion (show false = true from p)
  | .obj _ _, _, _, p, _ => Bool.noConfusion (show false = true from p)
theorem dw_all {Pm : Params} (KX : K.In h) (ar : ∀ a ∈ A, ArgOb h A a) : ∀ (ds : List WData) (vs : List Value), WellAll Pm h vs ds → plWs ds = true → (∀ u ∈ vs, OkU A u) → DwAll K (argH K h A) (vs.map toV) ds
  | [], _, x, _, _ => by
    cases x
    exact .nil
  | d :: ds, _, x, p, hu => by
    obtain ⟨v, vs, rfl, x1, x2⟩ := well_cons x
    have q : plW d = true ∧ plWs ds = true := Bool.and_eq_true_iff.mp p
    exact .cons (dw_one KX ar d v x1 q.1 (hu _ (List.mem_cons_self ..))) (dw_all KX ar ds vs x2 q.2 fun u m => hu u (List.mem_cons_of_mem _ m))
end
end
theorem spec_call {P : Program} {w : World} {K : PySem.W.Frag} {mg mb : Str → Option Value} {CX : CXT} {k : Nat} {fa : Addr} {fd : FuncData} {ps : List Str} {sp : Sp} {s₁ : Shared} {vals : List Value} {ds : List WData} {R : PySem.W.WRecords} {cl : Str → Option Addr} {d0 : WData}
    (KX : K.In s₁.heap) (hns : s₁.heap.Ns mainGlobals mg) (hb : s₁.heap.Ns builtinsNs mb) (hbb : ∀ x : Str, x ≠ "__name__" → mb x = bootBuiltins x) (hlim : s₁.heap.NoLimit) (hg : s₁.gens = #[])
    (hwl : WellAll w.params s₁.heap vals ds) (hpl : plWs ds = true) (hwt : ∀ d ∈ ds, d.weight ≤ 1048576) (hr : Room k callerA)
    (F : ∀ base : Heap, K.In base → base.Ns mainGlobals mg → FnOk P w K mg base CX k fa fd ps sp) (hbind : ∀ (s : Shared) (us : List Value), us.length = ps.length → BindsTo s fd ⟨us, []⟩ (ps.zip us)) (hlen : ds.length = ps.length)
    (hsp : ∀ (H : Hp) (xs : List V), OnlyF H → DwAll K H xs ds → sp xs H (fun v H' => Dw K H' v d0) fun _ _ _ => False)
    (hCX : ∀ H e s', CX [] H s₁ (fun _ _ _ => False) e s' → False) :
    codeAny (model P w) callerA (.call (.ref fa) ⟨vals, []⟩) (fun r s' => ∃ u as, r = .ok (.ret u) ∧ ReadsW R cl s'.heap u d0 as ∧ OldK s₁.heap s'.heap ∧ s'.os = s₁.os ∧ AllBare s'.gens) s₁ := by
  obtain ⟨A, ho, ar⟩ := area_all ds vals hwl hpl hwt
  have hO : OnlyF (argH K s₁.heap A) := argH_only ar
  have hok : HOk P w (argH K s₁.heap A) s₁.heap := argH_ok ar
  have hS := dw_all KX ar ds vals hwl hpl ho
  have hV := vals_toV ho
  have hK : ∀ b u, argH K s₁.heap A b = some u → K.lookup b = none := fun b u q => (argH_is ar q).1
  have noA : ∀ {b : Addr} {o : Obj} {es : Array DictEntry} {ep : Nat}, s₁.heap.get? b = some o → o.data = .dict es ep → argH K s₁.heap A b = none := fun {b o es ep} e d => by
    cases q : argH K s₁.heap A b with
    | none => rfl
    | some u =>
      obtain ⟨_, vs, _, _, ⟨e2, _⟩ | ⟨e2, _⟩⟩ := argH_is ar q
      · rw [e2] at e
        cases e
        have d' : Data.seq vs.toArray _ = Data.dict es ep := d
        cases d'
      · rw [e2] at e
        cases e
        have d' : Data.seq vs.toArray _ = Data.dict es ep := d
        cases d'
  generalize argH K s₁.heap A = H at hO hok hS hK noA
  have base_of : ∀ {b : Addr} {o : Obj}, s₁.heap.get? b = some o → H b = none → (hidT s₁.heap H).get? b = some o := fun e n => hidT_get e n
  have nsK : ∀ {b : Addr} {m : Str → Option Value}, s₁.heap.Ns b m → (hidT s₁.heap H).Ns b m := fun {b m} ⟨o, es, ep, e, d, r⟩ => ⟨o, es, ep, base_of e (noA e d), d, r⟩
  have nK : ∀ b o, K.lookup b = some o → H b = none := fun b o e => by
    cases q : H b with
    | none => rfl
    | some u =>
      rw [hK b u q] at e
      cases e
  have hKb : K.In (hidT s₁.heap H) := fun b o e => base_of (KX b o e) (nK b o e)
  have hM : Mod K mg (hidT s₁.heap H) := ⟨hKb, nsK hns, ⟨mb, nsK hb, hbb⟩, let ⟨mc, h1, h2⟩ := hlim; ⟨mc, nsK h1, h2⟩⟩
  have e0 : Env0 P w K mg (hidT s₁.heap H) callerA [] s₁ H := ⟨rfl, hM, fun b o e => of_hidT e, Nat.le_of_eq (hidT_size _ _), trivial, fun b hb => absurd (show b ∈ ([] : List Addr) from hb) (by simp), hok, .of_eq hg⟩
  have hl : vals.length = ps.length := by rw [wellAll_len hwl]; exact hlen
  refine codeAny_mono ((F _ hKb (nsK hns)).run callerA [] s₁ H ⟨vals, []⟩ vals (vals.map toV) _ _ hr e0 (hbind s₁ vals hl) hV (hsp H _ hO hS)) fun r s' x => ?_
  cases r with
  | error e => exact (hCX H e s' x).elim
  | ok fl =>
    cases fl with
    | next => exact False.elim x
    | brk => exact False.elim x
    | cont => exact False.elim x
    | ret u =>
      obtain ⟨v, H', os, bare, un, hok', r', q⟩ := x
      have kept : ∀ b o, s₁.heap.get? b = some o → s'.heap.get? b = some o := fun b o e => by
        cases q2 : H b with
        | none => exact un.keep b o e q2 (by intro z; exact absurd (show b ∈ ([] : List Addr) from z) (by simp)) (by simp)
        | some u2 =>
          rcases hO b with z | ⟨ob, u3, z⟩
          · rw [q2] at z
            cases z
          · have z2 := un.frzs b ob _ z
            obtain ⟨e1, _⟩ := hok b _ z
            obtain ⟨e2, _⟩ := hok' b _ z2
            rw [e] at e1
            cases e1
            exact e2
      have KX' : K.In s'.heap := fun b o e => kept b o (KX b o e)
      obtain ⟨as, hrd⟩ := Dw.reads (R := R) (cl := cl) hok' KX' d0 v u q r'
      exact ⟨u, as, rfl, hrd, OldK.of_keep kept, os, bare⟩
theorem layable_weight {ds : List WData} (h : WData.layableAll ds = true) : ∀ d ∈ ds, d.weight ≤ 1048576 := fun d hd =>
  (PySem.W.layableW_iff.mp (List.all_eq_true.mp h d hd)).2.2
theorem encAll_len : ∀ (cs : List Codec) (a : Codec.denoteAll cs), (Codec.encAll cs a).length = cs.length
  | [], _ => rfl
  | c :: cs, a => by
    show (Codec.encAll cs a.2).length + 1 = cs.length + 1
    rw [encAll_len cs a.2]
theorem walk_spec {r : OpenSpec} {k : Nat} {q : Program} {loose : List Str} {XP : (Str → Option Value) → Heap → Prop} {YP : World → Heap → Prop} {d : DefRec} {K : Params → PySem.W.Frag} {CX : World → CXT} {ps : List Str} {sp : World → Sp}
    (hwell : r.wellSaid = true) (hdf : d.params.defaults = []) (hlen : r.args.length = ps.length) (hr : Room k callerA)
    (hY : ∀ (w : World) (h : Heap), YP w h → (K w.params).In h)
    (F : ∀ (w : World) (mg : Str → Option Value) (fa : Addr) (h : Heap), YP w h → (K w.params).In h → h.Ns mainGlobals mg → mg d.name = some (.ref fa) →
      ∃ fd : FuncData, (∀ (s : Shared) (us : List Value), us.length = ps.length → BindsTo s fd ⟨us, []⟩ (ps.zip us)) ∧
        ∀ base : Heap, (K w.params).In base → base.Ns mainGlobals mg → FnOk r.prog w (K w.params) mg base (CX w) k fa fd ps (sp w))
    (hsp : ∀ (w : World) (H : Hp) (xs : List V) (a : Codec.denoteAll r.args), OnlyF H → Codec.withinAll r.args a = true → Codec.app r.args r.asked a = true → DwAll (K w.params) H xs (Codec.encAll r.args a) →
      sp w xs H (fun v H' => Dw (K w.params) H' v (r.ret.enc (Codec.app r.args r.f a))) fun _ _ _ => False)
    (hCX : ∀ (w : World) (H : Hp) (s : Shared) (e : Value) (s' : Shared), CX w [] H s (fun _ _ _ => False) e s' → False) :
    PySem.W.WalkOS q loose XP YP r d [] (fun f vs => PySem.call f vs) := by
  intro w s_0 s₁ mg mb G Y fa o pm cd doc dV kV ho hd hcd hD hmg hg args vals as hpre hlay hrd hwl hlo
  obtain ⟨a, e1, e2⟩ := PySem.W.os_pre_some hpre
  obtain ⟨e3, hwi⟩ := Codec.encAll_of_decAll r.args args a e1
  subst e3
  have KX := hY w _ Y
  obtain ⟨fd, hb, hF⟩ := F w mg fa _ Y KX G.T.g hmg
  refine PySem.W.enter_call (codeAny_mono (spec_call (R := []) (cl := classAt s_0.heap) (d0 := r.ret.enc (Codec.app r.args r.f a)) KX G.T.g G.T.b G.T.builtins G.T.nolimit hg hwl (pl_encAll _ _) (layable_weight hlay) hr hF hb (by rw [encAll_len]; exact hlen)
    (fun H xs hO hS => hsp w H xs a hO hwi e2 hS) fun H e s' => hCX w H s₁ e s') fun r' s' hq => ?_)
  obtain ⟨u, as', rfl, h1, h2, h3, h4⟩ := hq
  exact ⟨.inl ⟨u, _, as', rfl, fun _ => rfl, h1, (OpenSpec.post_iff hwell hwi _ _).mpr rfl, fun z => Bool.noConfusion (show false = true from z)⟩, h2, h3, h4⟩
theorem walk_specK {r : OpenSpec} {k : Nat} {q : Program} {loose : List Str} {XP : (Str → Option Value) → Heap → Prop} {YP : World → Heap → Prop} {d : DefRec} {K : Params → PySem.W.Frag} {CX : CXT} {ps : List Str} {sp : PySem.W.Frag → Sp}
    (hwell : r.wellSaid = true) (hdf : d.params.defaults = []) (hlen : r.args.length = ps.length) (hr : Room k callerA)
    (hY : ∀ (w : World) (h : Heap), YP w h → (K w.params).In h)
    (F : ∀ (w : World) (mg : Str → Option Value) (fa : Addr) (h : Heap), YP w h → (K w.params).In h → h.Ns mainGlobals mg → mg d.name = some (.ref fa) →
      ∃ fd : FuncData, (∀ (s : Shared) (us : List Value), us.length = ps.length → BindsTo s fd ⟨us, []⟩ (ps.zip us)) ∧
        ∀ base : Heap, (K w.params).In base → base.Ns mainGlobals mg → FnOk r.prog w (K w.params) mg base CX k fa fd ps (sp (K w.params)))
    (hsp : ∀ (K : PySem.W.Frag) (H : Hp) (xs : List V) (a : Codec.denoteAll r.args), OnlyF H → Codec.withinAll r.args a = true → Codec.app r.args r.asked a = true → DwAll K H xs (Codec.encAll r.args a) →
      sp K xs H (fun v H' => Dw K H' v (r.ret.enc (Codec.app r.args r.f a))) fun _ _ _ => False)
    (hCX : ∀ (H : Hp) (s : Shared) (e : Value) (s' : Shared), CX [] H s (fun _ _ _ => False) e s' → False) :
    PySem.W.WalkOS q loose XP YP r d [] (fun f vs => PySem.call f vs) :=
  walk_spec (K := K) (CX := fun _ => CX) (sp := fun w => sp (K w.params)) hwell hdf hlen hr hY F (fun w H xs a h1 h2 h3 h4 => hsp (K w.params) H xs a h1 h2 h3 h4) fun _ H s e s' => hCX H s e s'
end L2
end
end
section
set_option Elab.async false
set_option maxRecDepth 100000
set_option maxHeartbeats 2000000
namespace L2
open PySem PySem.Spec PyProof.Rows
def intKeys (es : List DictEntry) : Bool := es.all fun e => match e.key with
  | .int k _ => decide (e.hash = hashInt k)
  | _ => false
structure KD (K : PySem.W.Frag) (a : Addr) (es : Array DictEntry) : Prop where
  lk : ∃ n, K.lookup a = some ⟨.type "dict", none, .dict es n, #[]⟩
  keys : intKeys es.toList = true
  nm : (a == sysModules) = false
def kAt (es : Array DictEntry) (k : Int) : Option Value := findBy Value.isInt es k
theorem KD.map {prog : Program} {w : World} {K : PySem.W.Frag} {a : Addr} {es : Array DictEntry} {h : Heap} (d : KD K a es) (X : K.In h) : h.MapOf (intKind prog w) a (kAt es) := by
  obtain ⟨n, hl⟩ := d.lk
  refine ⟨_, es, n, X _ _ hl, ⟨rfl, rfl, rfl⟩, rfl, fun e he => ?_, fun _ => rfl⟩
  have q := List.all_eq_true.mp d.keys e (Array.mem_toList_iff.mpr he)
  revert q
  cases ek : e.key with
  | int k t =>
    intro q
    refine ⟨k, ?_, of_decide_eq_true q⟩
    show Value.isInt k (Value.int k t) = true
    simp [Value.isInt]
  | _ => intro q; cases q
theorem isInt_self (k : Int) (t : Tok) : Value.isInt k (.int k t) = true := by simp [Value.isInt]
def tKGet (K : PySem.W.Frag) (td ty : TE) : TE := fun σ H Q => td σ H fun x H1 => ty σ H1 fun y H2 => ∃ a es k u v, x = .ref a ∧ y = .int k ∧ KD K a es ∧ kAt es k = some u ∧ RelV v u ∧ Q v H2
def tKIn (K : PySem.W.Frag) (ty td : TE) : TE := fun σ H Q => ty σ H fun y H1 => td σ H1 fun x H2 => ∃ a es k, x = .ref a ∧ y = .int k ∧ KD K a es ∧ Q (.bl (kAt es k).isSome) H2
def tKGet2 (K : PySem.W.Frag) (td ty tx : TE) : TE := fun σ H Q => td σ H fun x H1 => ∃ a es, x = .ref a ∧ KD K a es ∧ ty σ H1 fun y H2 => tx σ H2 fun z H3 => ∃ k v, y = .int k ∧ (∀ r, RelV z r → RelV v ((kAt es k).getD r)) ∧ Q v H3
section
variable {X : Cx} {o i e f : Expr} {pos apos cpos : Pos} {td ty tx : TE}
theorem pe_kget (ho : PE X o td) (hi : PE X i ty) (hs : NoSl i) : PE X (.Subscript o i pos) (tKGet X.K td ty) := by
  intro pins s σ H Q I h
  refine subD_of PySem.F.slot_dict_getitem.lookup hs (thn (ho pins s σ H _ I h) fun u s1 ⟨x, H1, I1, rx, q1⟩ => thn (hi pins s1 σ H1 _ I1 q1) fun iv s2 ⟨y, H2, I2, ry, a, es, k, w', v, ex, ey, d, hk, rv, q2⟩ => ?_)
  subst ex ey
  obtain rfl : u = Value.ref a := rx
  obtain ⟨t, rfl⟩ := ry
  have hm := d.map (prog := X.prog) (w := X.w) I2.kIn
  exact ⟨hm.typeIs, wpAny_getItem_of (isInt_self k t) hm hk ⟨v, H2, I2.tok _, rv, q2⟩⟩
theorem pc_kin (hi : PE X i ty) (ho : PE X o td) : PC X .In i o (tKIn X.K ty td) := by
  intro pins s σ H Q I h
  refine thn (hi pins s σ H _ I h) fun iv s1 ⟨y, H1, I1, ry, q1⟩ => thn (ho pins s1 σ H1 _ I1 q1) fun u s2 ⟨x, H2, I2, rx, a, es, k, ex, ey, d, q2⟩ => ?_
  subst ex ey
  obtain rfl : u = Value.ref a := rx
  obtain ⟨t, rfl⟩ := ry
  exact wpAny_in_of (isInt_self k t) d.nm (d.map (prog := X.prog) (w := X.w) I2.kIn) ⟨.bl _, H2, I2.tok _, rfl, q2⟩
theorem pe_kget2 (ho : PE X o td) (he : PE X e ty) (hf : PE X f tx) (m : M2 X o "get" apos e f cpos) : PE X (.Call (.Attribute o "get" apos) [e, f] [] cpos) (tKGet2 X.K td ty tx) := by
  intro pins s σ H Q I h
  refine wpAny_Call_method m.base m.few m.line PySem.F.plainAttrs_dict PySem.F.slot_dict_get PySem.F.type_dict_get (thn (ho pins s σ H _ I h) fun u s1 ⟨x, H1, I1, rx, a, es, ex, d, q1⟩ => ?_)
  subst ex
  obtain rfl : u = Value.ref a := rx
  have hm := d.map (prog := X.prog) (w := X.w) I1.kIn
  refine ⟨hm.typeIs, hm.noDict, ?_⟩
  rw [m.trees]
  refine Calls.callWith_builtin rfl (Calls.evalArgs_plain (Calls.spliced_cons (thn (he pins s1 σ H1 _ I1 q1) fun iv s2 ⟨y, H2, I2, ry, q2⟩ =>
    Calls.spliced_cons (thn (hf pins s2 σ H2 _ I2 q2) fun fv s3 ⟨z, H3, I3, rz, k, v, ey, rv, q3⟩ => Calls.spliced_nil ?_))))
  subst ey
  obtain ⟨t, rfl⟩ := ry
  have hm3 := d.map (prog := X.prog) (w := X.w) I3.kIn
  exact call_meetsIn PySem.F.slot_dict_get hm3.typeIs PySem.F.entry_dict_get (PySem.F.args_dict_get_3 _ _ _) (meets_dict_get_default (intKind X.prog X.w) a (show (intKind X.prog X.w).is k (.int k t) = true from isInt_self k t) d.nm fv) ⟨_, hm3, ⟨v, H3, I3.tok _, rv fv rz, q3⟩⟩
end
structure Callee (P : Program) (w : World) (K : PySem.W.Frag) (mg : Str → Option Value) (base : Heap) (k : Nat) (ps : List Str) (f : Addr) (sp : Sp) : Prop where
  ex : ∃ fd, FnOk P w K mg base CX0 k f fd ps sp ∧ Binds K fd ps []
  kp : PySem.W.keepIn K (.ref f) = true
def tCallV (C : Addr → Sp → Prop) (tf : TE) (t : TA) : TE := fun σ H Q => tf σ H fun x H0 => ∃ f sp, x = .ref f ∧ C f sp ∧ t σ H0 fun vs H1 => sp vs H1 Q E0
theorem pe_callV {X : Cx} {x : Str} {p pos : Pos} {e : Expr} {es : List Expr} {tf : TE} {t : TA} {k : Nat} {ps : List Str} (hf : PE X (.Name x p) tf) (hr : Room k X.A) (ha : PA X (e :: es) t)
    (he : starEach (e :: es) X.env = (false, eval e X.env) :: starEach es X.env := by rfl) (hpl : (backTo pos (starEach es X.env)).any (·.1) = false := by rfl) :
    PE X (.Call (.Name x p) (e :: es) [] pos) (tCallV (Callee X.prog X.w X.K X.mg X.base k ps) tf t) := by
  intro pins s σ H Q I h
  refine wpAny_Call_Name_kw (thn (hf pins s σ H _ I h) fun u s0 ⟨x0, H0, I0, rx, f, sp, ex, C, q0⟩ => ?_)
  subst ex
  obtain rfl : u = Value.ref f := rx
  obtain ⟨⟨fd, F, hb⟩, kp⟩ := C
  refine PySem.W.callWith_K (h₀ := X.base) I.ok.mod.kin kp (thn (ha pos pins s0 σ H0 _ I0 q0) fun us s1 ⟨vs, H1, I1, r, q⟩ => ⟨I1.kIn, ?_⟩) he hpl
  exact run_fn (dvs := []) F hr hb .nil pass0 I1 r (by rw [List.append_nil]; exact q)
theorem vals_of : ∀ {xs : List V} {us : List Value}, xs.length = us.length → (∀ (i : Nat) x u, xs[i]? = some x → us[i]? = some u → RelV x u) → Vals xs us
  | [], [], _, _ => .nil
  | [], _ :: _, h, _ => by cases h
  | _ :: _, [], h, _ => by cases h
  | x :: xs, u :: us, h, f => .cons (f 0 x u rfl rfl) (vals_of (Nat.succ.inj h) fun i y v hy hv => f (i + 1) y v hy hv)
section
variable {X : Cx}
theorem call_setL (hc : X.calm = true) : CallR X (.type "set") (fun xs H Q => ∃ (p : Addr) (ns : List Int), xs = [.ref p] ∧ SqL X.K H p (ns.map V.int) ∧ ns.length + 1 < scanBound ∧
    ∀ l, H l = none → Q (.ref l) (upd H l (.set (fun k => (firstMet (fun i => ns.getD i 0) ns.length).any (· == k)) (firstMet (fun i => ns.getD i 0) ns.length).length))) := by
  intro pins s σ H xs us Q I r h
  obtain ⟨p, ns, rfl, hq, hb, q⟩ := h
  rw [Vals.ref1 r]
  obtain ⟨its, rv, pl, _⟩ := I.list hq
  have hl := rv.length
  rw [List.length_map] at hl
  refine PySem.call_set_list (items := its.toArray) (ns := ns) (I.ok.hd hc) pl.isList rv.ints (by rw [List.size_toArray]; omega) fun h' tk hS hk => ?_
  have hsz : its.toArray.size = ns.length := by rw [List.size_toArray]; exact hl.symm
  rw [hsz] at hS
  exact ⟨.ref s.heap.objs.size, _, I.laid (t' := tk) (fun b o e => hk b o (Heap.lt_size e) e) (Nat.le_refl _) (show ObjOk X.prog X.w _ h' _ (.set _ _) from hS), rfl, q _ (I.hok.fresh (Nat.le_refl _))⟩
theorem call_lenS : CallR X (.builtin "len") (fun xs H Q => ∃ p S n, xs = [.ref p] ∧ H p = some (.set S n) ∧ Q (.int n) H) := by
  intro pins s σ H xs us Q I r h
  obtain ⟨p, S, n, rfl, hp, q⟩ := h
  rw [Vals.ref1 r]
  obtain ⟨o, es, ep, t, ho, hex, hd, _, _, hb, hf, hn⟩ := (show ObjOk X.prog X.w H s.heap p (.set S n) from I.hok p _ hp)
  have hsb : scanBound = 4096 := rfl
  exact call_len_set ho hex hd hf (by omega) ⟨.int n, H, I.tok _, ⟨_, by rw [hn]⟩, q⟩
def rCount (K : PySem.W.Frag) : V → List V → Hp → VK → Prop := fun x xs H Q => ∃ (a : Addr) (ns : List Int) (k : Int), x = V.ref a ∧ xs = [.int k] ∧ SqL K H a (ns.map V.int) ∧ Q (.int (ns.count k : Nat)) H
theorem mt_countI : MtR X "list.count" (rCount X.K) := by
  intro pins s σ H x xs v us Q I rx rs h
  obtain ⟨a, ns, k, rfl, rfl, hq, q⟩ := h
  cases rx
  obtain ⟨u, rfl, t, rfl⟩ := vals1 rs
  obtain ⟨its, rv, pl, _⟩ := I.list hq
  exact count_list_ints pl.isList rv.ints ⟨.int _, H, I.tok _, ⟨_, rfl⟩, q⟩
theorem call_rng1 : CallR X (.type "range") (fun xs H Q => ∃ j, xs = [.int j] ∧ ∀ l, H l = none → Q (.ref l) (upd H l (.rng 0 j))) := by
  intro pins s σ H xs us Q I r h
  obtain ⟨j, rfl, q⟩ := h
  obtain ⟨u, rfl, t, rfl⟩ := vals1 r
  exact call_range_1 ⟨.ref s.heap.objs.size, _, I.laid (fun b o e => Heap.get?_push_of_some _ e) (Nat.le_refl _) (show ObjOk X.prog X.w _ _ _ (.rng 0 j) from ⟨_, _, _, Heap.get?_push_size _ rfl⟩), rfl, q _ (I.hok.fresh (Nat.le_refl _))⟩
theorem call_listR (hc : X.calm = true) : CallR X (.type "list") (fun xs H Q => ∃ p n, xs = [.ref p] ∧ H p = some (.rng 0 ((n : Nat) : Int)) ∧ n ≤ 1000 ∧ ∀ l, H l = none → Q (.ref l) (upd H l (.lst ((List.range n).map fun (i : Nat) => V.int (i : Int))))) := by
  intro pins s σ H xs us Q I r h
  obtain ⟨p, n, rfl, hp, hn, q⟩ := h
  rw [Vals.ref1 r]
  obtain ⟨t, u, v, e⟩ := (show ObjOk X.prog X.w H s.heap p (.rng 0 (n : Int)) from I.hok p _ hp)
  have hs : sizeLine = 16777216 := sizeLine_eq
  refine call_list_range (n := n) (I.ok.hd hc) (show IsRange s.heap p 0 (n : Int) 1 t u v from e) (small_one (by omega) (by omega) (by omega) (by omega)) ?_ (by omega) fun h' tk acc c hk hD hI => ?_
  · rw [rangeSize_one]; split <;> omega
  · have hV : Vals ((List.range n).map fun (i : Nat) => V.int (i : Int)) acc.toList := by
      refine vals_of (by rw [List.length_map, List.length_range, Array.length_toList, hI.1]) fun i x u hx hu => ?_
      ·
        rw [List.getElem?_map] at hx
        rw [Array.getElem?_toList] at hu
        obtain ⟨t', rfl⟩ := hI.2 i u hu
        by_cases hin : i < n
        · rw [List.getElem?_range hin] at hx
          cases hx
          exact ⟨t', by simp⟩
        · rw [List.getElem?_eq_none (by rw [List.length_range]; omega)] at hx
          cases hx
    exact ⟨.ref s.heap.objs.size, _, I.laid (t' := tk) hk (Nat.le_refl _) (show ObjOk X.prog X.w _ h' _ (.lst _) from ⟨by rw [List.length_map, List.length_range]; omega, acc.toList, c, hV, by rw [Array.toArray_toList]; exact hD⟩), rfl, q _ (I.hok.fresh (Nat.le_refl _))⟩
end
def Fn (K : PySem.W.Frag) (mg : Str → Option Value) (x qual : Str) (st : Stmt) (ps : List Str) : Prop :=
  ∃ f fd, mg x = some (.ref f) ∧ Fun K x qual st f fd ∧ Binds K fd ps []
def FnM (K : PySem.W.Frag) (C : Addr) (m qual : Str) (st : Stmt) (ps : List Str) : Prop :=
  ∃ f fd, Meth K C m f ∧ Fun K m qual st f fd ∧ Binds K fd ps []
def FnI (K : PySem.W.Frag) (C : Addr) (qual : Str) (st : Stmt) (ps : List Str) : Prop :=
  ∃ f fd, Mk K C f ∧ Fun K "__init__" qual st f fd ∧ Binds K fd ps []
section
variable (P : Program) (w : World) (K : PySem.W.Frag) (mg : Str → Option Value) (base : Heap)
def Has (k : Nat) (x : Str) (ps : List Str) (sp : Sp) : Prop :=
  ∃ f fd, mg x = some (.ref f) ∧ FnOk P w K mg base CX0 k f fd ps sp ∧ Binds K fd ps [] ∧ PySem.W.keepIn K (.ref f) = true
def HasM (k : Nat) (C : Addr) (m : Str) (ps : List Str) (sp : Sp) : Prop :=
  ∃ f fd, Meth K C m f ∧ FnOk P w K mg base CX0 k f fd ps sp ∧ Binds K fd ps []
def HasI (k : Nat) (C : Addr) (ps : List Str) (sp : Sp) : Prop :=
  ∃ f fd, Mk K C f ∧ FnOk P w K mg base CX0 k f fd ps sp ∧ Binds K fd ps []
end
section
variable {P : Program} {w : World} {K : PySem.W.Frag} {mg : Str → Option Value} {base : Heap}
abbrev Body (P : Program) (w : World) (K : PySem.W.Frag) (mg : Str → Option Value) (base : Heap) (N : List Str) (qual : Str) (st : Stmt) (k : Nat) (sp : Sp) : Prop :=
  ∀ (f : Addr) (cdv : Value) (A : Around) (outer : List Env) (s : Shared) (H : Hp) (vs : List V) (Q : VK) (E : XK), Room k (A.deeper (envOfC qual (defScope st) s.heap.objs.size f cdv)) → sp vs H Q E →
      ∃ t, PSs (cxOf CX0 P w K mg base N qual (defScope st) f cdv A outer s H E).nox (defBody st) t ∧ t { nx := fun _ H' => Q .non H', rt := Q } (start N vs) H
theorem Fn.has {x qual : Str} {st : Stmt} {N ps : List Str} {k : Nat} {sp : Sp} (F : Fn K mg x qual st ps) (S : FnScope N ps (defScope st)) (len : ∀ vs H Q E, sp vs H Q E → vs.length = ps.length)
    (hb : Body P w K mg base N qual st k sp) : Has P w K mg base (k + 1) x ps sp := by
  obtain ⟨f, fd, hm, hF, hB⟩ := F
  exact ⟨f, fd, hm, hF.ok S len (fun cdv A outer s H vs Q E hr h => hb f cdv A outer s H vs Q E hr h), hB, hF.kp⟩
theorem FnM.has {C : Addr} {m qual : Str} {st : Stmt} {N ps : List Str} {k : Nat} {sp : Sp} (F : FnM K C m qual st ps) (S : FnScope N ps (defScope st)) (len : ∀ vs H Q E, sp vs H Q E → vs.length = ps.length)
    (hb : Body P w K mg base N qual st k sp) : HasM P w K mg base (k + 1) C m ps sp := by
  obtain ⟨f, fd, hm, hF, hB⟩ := F
  exact ⟨f, fd, hm, hF.ok S len (fun cdv A outer s H vs Q E hr h => hb f cdv A outer s H vs Q E hr h), hB⟩
theorem FnI.has {C : Addr} {qual : Str} {st : Stmt} {N ps : List Str} {k : Nat} {sp : Sp} (F : FnI K C qual st ps) (S : FnScope N ps (defScope st)) (len : ∀ vs H Q E, sp vs H Q E → vs.length = ps.length)
    (hb : Body P w K mg base N qual st k sp) : HasI P w K mg base (k + 1) C ps sp := by
  obtain ⟨f, fd, hm, hF, hB⟩ := F
  exact ⟨f, fd, hm, hF.ok S len (fun cdv A outer s H vs Q E hr h => hb f cdv A outer s H vs Q E hr h), hB⟩
theorem Has.mono {j k : Nat} {x : Str} {ps : List Str} {sp : Sp} (h : Has P w K mg base j x ps sp) (hk : j ≤ k) : Has P w K mg base k x ps sp := by
  obtain ⟨f, fd, a, b, c, d⟩ := h
  exact ⟨f, fd, a, b.mono hk, c, d⟩
end
section
variable {X : Cx} {k : Nat} {ps : List Str} {sp : Sp} {x m : Str} {p pos apos : Pos} {e o : Expr} {es : List Expr} {ta : TE} {t : TA} {C : Addr}
theorem pe_fn (h : Has X.prog X.w X.K X.mg X.base k x ps sp) (hr : Room k X.A) (hg : Gl X x) (ha : PA X (e :: es) t) (hdb : (x == ("__debug__" : Str)) = false := by decide)
    (he : starEach (e :: es) X.env = (false, eval e X.env) :: starEach es X.env := by rfl) (hpl : (backTo pos (starEach es X.env)).any (·.1) = false := by rfl) :
    PE X (.Call (.Name x p) (e :: es) [] pos) (tCall sp [] E0 t) := by
  obtain ⟨f, fd, hm, F, hb, kp⟩ := h
  exact pe_call F hr hg hm kp hb .nil pass0 ha hdb he hpl
theorem pe_mt {pl : Sem Bool} (h : HasM X.prog X.w X.K X.mg X.base k C m ps sp) (he : PE X o ta) (c : Cls X.K C) (hr : Room k X.A) (ha : PA X (e :: es) t)
    (hst : starEach (e :: es) X.env = (false, eval e X.env) :: starEach es X.env := by rfl) (hpl : (backTo pos (starEach es X.env)).any (·.1) = false := by rfl)
    (ht : eval (.Call (.Attribute o m apos) (e :: es) [] pos) X.env = (do
      let ov ← eval o X.env
      standAt apos.atName
      let (f, first) ← holding [ov] (getMethod ov m pl)
      callWith pos f first (backTo pos (starEach (e :: es) X.env)) (backToKw pos (keywordEach [] X.env))) := by rfl) :
    PE X (.Call (.Attribute o m apos) (e :: es) [] pos) (tMeth C m sp [] E0 ta t) := by
  obtain ⟨f, fd, hm, F, hb⟩ := h
  exact pe_meth he c hm F hr hb .nil pass0 ha hst hpl ht
theorem pe_mt0 {pl : Sem Bool} (h : HasM X.prog X.w X.K X.mg X.base k C m ps sp) (he : PE X o ta) (c : Cls X.K C) (hr : Room k X.A)
    (ht : eval (.Call (.Attribute o m apos) [] [] pos) X.env = (do
      let ov ← eval o X.env
      standAt apos.atName
      let (f, first) ← holding [ov] (getMethod ov m pl)
      callWith pos f first (backTo pos (starEach [] X.env)) (backToKw pos (keywordEach [] X.env))) := by rfl) :
    PE X (.Call (.Attribute o m apos) [] [] pos) (tMeth C m sp [] E0 ta tNil) := by
  obtain ⟨f, fd, hm, F, hb⟩ := h
  exact pe_meth0 he c hm F hr hb .nil pass0 ht
theorem pe_mk (h : HasI X.prog X.w X.K X.mg X.base k C ps sp) (hr : Room (k + 1) X.A) (hg : Gl X x) (hm : X.mg x = some (.ref C)) (ha : PA X (e :: es) t) (hdb : (x == ("__debug__" : Str)) = false := by decide)
    (he : starEach (e :: es) X.env = (false, eval e X.env) :: starEach es X.env := by rfl) (hpl : (backTo pos (starEach es X.env)).any (·.1) = false := by rfl) :
    PE X (.Call (.Name x p) (e :: es) [] pos) (tMake C sp [] E0 t) := by
  obtain ⟨f, fd, M, F, hb⟩ := h
  exact pe_make M F hr hg hm hb .nil pass0 ha hdb he hpl
theorem pe_mk0 (h : HasI X.prog X.w X.K X.mg X.base k C ps sp) (hr : Room (k + 1) X.A) (hg : Gl X x) (hm : X.mg x = some (.ref C)) (hdb : (x == ("__debug__" : Str)) = false := by decide) :
    PE X (.Call (.Name x p) [] [] pos) (tMake C sp [] E0 tNil) := by
  obtain ⟨f, fd, M, F, hb⟩ := h
  exact pe_make0 M F hr hg hm hb .nil pass0 hdb
def Kst (mg : Str → Option Value) (x : Str) (v : Int) : Prop := ∃ t, mg x = some (.int v t)
theorem pe_kst {v : Int} (h : Kst X.mg x v) (hg : Gl X x) (hd : (x == ("__debug__" : Str)) = false := by decide) : PE X (.Name x pos) (tC (.int v)) := by
  obtain ⟨t, hm⟩ := h
  exact pe_glob hg hm ⟨t, rfl⟩ hd
theorem pe_obj {a : Addr} (h : X.mg x = some (.ref a)) (hg : Gl X x) (hd : (x == ("__debug__" : Str)) = false := by decide) : PE X (.Name x pos) (tC (.ref a)) := pe_glob hg h rfl hd
end
end L2
end
section
set_option Elab.async false
set_option maxRecDepth 100000
set_option maxHeartbeats 2000000
namespace L2
open PySem PySem.Spec PyProof.Rows
section
variable {X : Cx}
def rGetL (K : PySem.W.Frag) : V → V → Hp → VK → Prop := fun x y H Q => ∃ p xs, ∃ (i : Nat) (v : V), x = .ref p ∧ y = .int (i : Int) ∧ SqL K H p xs ∧ xs[i]? = some v ∧ Q v H
theorem get_list : PGet X (rGetL X.K) := by
  intro pins s σ H o i ov iv Q I ro ri h
  obtain ⟨p, xs, j, z, rfl, rfl, hq, he, q⟩ := h
  cases ro
  obtain ⟨t, rfl⟩ := ri
  obtain ⟨its, r, pl, hz⟩ := I.list hq
  have hlt : j < xs.length := (List.getElem?_eq_some_iff.mp he).1
  obtain ⟨w, ew, rw'⟩ := r.get he
  have hn := line63
  exact wpAny_getItem_list pl.isList (by omega) (by omega) (by rw [Int.toNat_natCast]; simpa using ew) ⟨z, H, I, rw', q⟩
def CDivB (i j : Int) : Prop := 0 < j ∧ j < 2 ^ 64
theorem op_fdivB : OpR X (binaryOp .FloorDiv) (rI CDivB fun i j => .int (i / j)) := opI fun i j _ _ _ _ _ hc q => by
  have h1 : (0 : Int) < j := hc.1
  have h2 : j < 2 ^ 64 := hc.2
  refine floordiv_int (by omega) (by rw [Int.fdiv_eq_ediv_of_nonneg i (by omega)]; exact q) (.inl (PyProof.noPylong_of_log2 ?_))
  have h3 : j.natAbs < 2 ^ 64 := by omega
  have h4 : j.natAbs.log2 < 64 := (Nat.log2_lt (by omega)).mpr h3
  omega
theorem ixN_nat {n j : Nat} (h : j < n) : ixN n (j : Int) = some j := by
  unfold ixN
  rw [if_pos (by omega), if_pos (by omega), Int.toNat_natCast]
end
end L2
end
section
set_option Elab.async false
set_option maxRecDepth 100000
set_option maxHeartbeats 2000000
namespace Gd
open PySem PySem.Spec PyProof.Rows L2
def top (i : Nat) : Stmt := PySem.Challenge.pw_genedrift_s01_answers.main.body.getD i (.Pass ⟨0, 0, 0, 0⟩)
abbrev s_power : Stmt := top 1
theorem sc_power : FnScope ["base", "exponent", "product", "step"] ["base", "exponent"] (defScope s_power) := ⟨rfl, rfl, rfl, by decide +kernel, rfl, by decide +kernel, by decide +kernel⟩
abbrev s_count_runs : Stmt := top 2
theorem sc_count_runs : FnScope ["n", "t", "rows_of_draws"] ["n", "t"] (defScope s_count_runs) := ⟨rfl, rfl, rfl, by decide +kernel, rfl, by decide +kernel, by decide +kernel⟩
abbrev s_count_with_one_more : Stmt := top 4
theorem sc_count_with_one_more : FnScope ["n", "counts", "k", "seen_parent"] ["n", "counts", "k"] (defScope s_count_with_one_more) := ⟨rfl, rfl, rfl, by decide +kernel, rfl, by decide +kernel, by decide +kernel⟩
abbrev s_count_parents : Stmt := top 5
theorem sc_count_parents : FnScope ["n", "m", "counts", "step", "k"] ["n", "m"] (defScope s_count_parents) := ⟨rfl, rfl, rfl, by decide +kernel, rfl, by decide +kernel, by decide +kernel⟩
abbrev s_counts_one_earlier : Stmt := top 6
theorem sc_counts_one_earlier : FnScope ["n", "counts", "earlier", "m", "free_draws", "parents", "k"] ["n", "counts"] (defScope s_counts_one_earlier) := ⟨rfl, rfl, rfl, by decide +kernel, rfl, by decide +kernel, by decide +kernel⟩
abbrev s_count_merge : Stmt := top 7
theorem sc_count_merge : FnScope ["n", "m", "t", "counts", "step"] ["n", "m", "t"] (defScope s_count_merge) := ⟨rfl, rfl, rfl, by decide +kernel, rfl, by decide +kernel, by decide +kernel⟩
abbrev s_choose : Stmt := top 9
theorem sc_choose : FnScope ["size", "amount", "ways", "step"] ["size", "amount"] (defScope s_choose) := ⟨rfl, rfl, rfl, by decide +kernel, rfl, by decide +kernel, by decide +kernel⟩
abbrev s_count_draws : Stmt := top 10
theorem sc_count_draws : FnScope ["n", "i", "j"] ["n", "i", "j"] (defScope s_count_draws) := ⟨rfl, rfl, rfl, by decide +kernel, rfl, by decide +kernel, by decide +kernel⟩
abbrev s_counts_at_start : Stmt := top 11
theorem sc_counts_at_start : FnScope ["n", "i", "counts"] ["n", "i"] (defScope s_counts_at_start) := ⟨rfl, rfl, rfl, by decide +kernel, rfl, by decide +kernel, by decide +kernel⟩
abbrev s_counts_one_later : Stmt := top 12
theorem sc_counts_one_later : FnScope ["n", "counts", "later", "i", "j"] ["n", "counts"] (defScope s_counts_one_later) := ⟨rfl, rfl, rfl, by decide +kernel, rfl, by decide +kernel, by decide +kernel⟩
abbrev s_count_ways : Stmt := top 13
theorem sc_count_ways : FnScope ["n", "i", "t", "counts", "step"] ["n", "i", "t"] (defScope s_count_ways) := ⟨rfl, rfl, rfl, by decide +kernel, rfl, by decide +kernel, by decide +kernel⟩
abbrev s_count_first : Stmt := top 14
theorem sc_count_first : FnScope ["n", "i", "t", "counts", "step"] ["n", "i", "t"] (defScope s_count_first) := ⟨rfl, rfl, rfl, by decide +kernel, rfl, by decide +kernel, by decide +kernel⟩
abbrev s_sum_unlike : Stmt := top 15
theorem sc_sum_unlike : FnScope ["n", "i", "t", "counts", "j"] ["n", "i", "t"] (defScope s_sum_unlike) := ⟨rfl, rfl, rfl, by decide +kernel, rfl, by decide +kernel, by decide +kernel⟩
abbrev s_count_toward : Stmt := top 16
theorem sc_count_toward : FnScope ["n", "old_amounts", "new_amounts", "ways", "left", "kind", "amount"] ["n", "old_amounts", "new_amounts"] (defScope s_count_toward) := ⟨rfl, rfl, rfl, by decide +kernel, rfl, by decide +kernel, by decide +kernel⟩
abbrev s_is_within : Stmt := top 25
theorem sc_is_within : FnScope ["number", "low", "high"] ["number", "low", "high"] (defScope s_is_within) := ⟨rfl, rfl, rfl, by decide +kernel, rfl, by decide +kernel, by decide +kernel⟩
abbrev s_are_within : Stmt := top 26
theorem sc_are_within : FnScope ["numbers", "low", "high", "number"] ["numbers", "low", "high"] (defScope s_are_within) := ⟨rfl, rfl, rfl, by decide +kernel, rfl, by decide +kernel, by decide +kernel⟩
abbrev s_is_list_within : Stmt := top 27
theorem sc_is_list_within : FnScope ["members", "shortest", "longest", "low", "high"] ["members", "shortest", "longest", "low", "high"] (defScope s_is_list_within) := ⟨rfl, rfl, rfl, by decide +kernel, rfl, by decide +kernel, by decide +kernel⟩
abbrev s_lowest_terms : Stmt := top 29
theorem sc_lowest_terms : FnScope ["top", "bottom", "divisor", "rest", "remainder"] ["top", "bottom"] (defScope s_lowest_terms) := ⟨rfl, rfl, rfl, by decide +kernel, rfl, by decide +kernel, by decide +kernel⟩
abbrev s_chance_to_take_over : Stmt := top 30
theorem sc_chance_to_take_over : FnScope ["n", "i", "a", "b", "gained", "gained_by_all", "k", "gain"] ["n", "i", "a", "b"] (defScope s_chance_to_take_over) := ⟨rfl, rfl, rfl, by decide +kernel, rfl, by decide +kernel, by decide +kernel⟩
abbrev s_step_chances : Stmt := top 31
theorem sc_step_chances : FnScope ["n", "i", "a", "b", "others"] ["n", "i", "a", "b"] (defScope s_step_chances) := ⟨rfl, rfl, rfl, by decide +kernel, rfl, by decide +kernel, by decide +kernel⟩
abbrev s_refusal_over_runs : Stmt := top 38
theorem sc_refusal_over_runs : FnScope ["n", "amounts", "least", "t"] ["n", "amounts", "least", "t"] (defScope s_refusal_over_runs) := ⟨rfl, rfl, rfl, by decide +kernel, rfl, by decide +kernel, by decide +kernel⟩
abbrev s_answer_all : Stmt := top 39
theorem sc_answer_all : FnScope ["population", "wholes", "lists", "n", "t", "refusal"] ["population", "wholes", "lists"] (defScope s_answer_all) := ⟨rfl, rfl, rfl, by decide +kernel, rfl, by decide +kernel, by decide +kernel⟩
abbrev s_answer_ways : Stmt := top 40
theorem sc_answer_ways : FnScope ["population", "wholes", "lists", "n", "i", "j", "t", "refusal"] ["population", "wholes", "lists"] (defScope s_answer_ways) := ⟨rfl, rfl, rfl, by decide +kernel, rfl, by decide +kernel, by decide +kernel⟩
abbrev s_answer_first : Stmt := top 41
theorem sc_answer_first : FnScope ["population", "wholes", "lists", "n", "i", "t", "refusal"] ["population", "wholes", "lists"] (defScope s_answer_first) := ⟨rfl, rfl, rfl, by decide +kernel, rfl, by decide +kernel, by decide +kernel⟩
abbrev s_answer_merge : Stmt := top 42
theorem sc_answer_merge : FnScope ["population", "wholes", "lists", "n", "m", "k", "t", "refusal"] ["population", "wholes", "lists"] (defScope s_answer_merge) := ⟨rfl, rfl, rfl, by decide +kernel, rfl, by decide +kernel, by decide +kernel⟩
abbrev s_answer_alike : Stmt := top 43
theorem sc_answer_alike : FnScope ["population", "wholes", "lists", "n", "t", "refusal"] ["population", "wholes", "lists"] (defScope s_answer_alike) := ⟨rfl, rfl, rfl, by decide +kernel, rfl, by decide +kernel, by decide +kernel⟩
abbrev s_answer_unlike : Stmt := top 44
theorem sc_answer_unlike : FnScope ["population", "wholes", "lists", "n", "i", "t", "refusal", "unlike"] ["population", "wholes", "lists"] (defScope s_answer_unlike) := ⟨rfl, rfl, rfl, by decide +kernel, rfl, by decide +kernel, by decide +kernel⟩
abbrev s_are_amounts_of_kinds : Stmt := top 45
theorem sc_are_amounts_of_kinds : FnScope ["amounts", "n"] ["amounts", "n"] (defScope s_are_amounts_of_kinds) := ⟨rfl, rfl, rfl, by decide +kernel, rfl, by decide +kernel, by decide +kernel⟩
abbrev s_answer_toward : Stmt := top 46
theorem sc_answer_toward : FnScope ["population", "wholes", "lists", "n", "old_amounts", "new_amounts"] ["population", "wholes", "lists"] (defScope s_answer_toward) := ⟨rfl, rfl, rfl, by decide +kernel, rfl, by decide +kernel, by decide +kernel⟩
abbrev s_are_copies_and_weights : Stmt := top 47
theorem sc_are_copies_and_weights : FnScope ["n", "wholes"] ["n", "wholes"] (defScope s_are_copies_and_weights) := ⟨rfl, rfl, rfl, by decide +kernel, rfl, by decide +kernel, by decide +kernel⟩
abbrev s_answer_takes : Stmt := top 48
theorem sc_answer_takes : FnScope ["population", "wholes", "lists", "n"] ["population", "wholes", "lists"] (defScope s_answer_takes) := ⟨rfl, rfl, rfl, by decide +kernel, rfl, by decide +kernel, by decide +kernel⟩
abbrev s_answer_chances : Stmt := top 49
theorem sc_answer_chances : FnScope ["population", "wholes", "lists", "n"] ["population", "wholes", "lists"] (defScope s_answer_chances) := ⟨rfl, rfl, rfl, by decide +kernel, rfl, by decide +kernel, by decide +kernel⟩
abbrev s_is_counting_call : Stmt := top 51
theorem sc_is_counting_call : FnScope ["number"] ["number"] (defScope s_is_counting_call) := ⟨rfl, rfl, rfl, by decide +kernel, rfl, by decide +kernel, by decide +kernel⟩
abbrev s_answer_counting : Stmt := top 52
theorem sc_answer_counting : FnScope ["population", "number", "wholes", "lists", "handler"] ["population", "number", "wholes", "lists"] (defScope s_answer_counting) := ⟨rfl, rfl, rfl, by decide +kernel, rfl, by decide +kernel, by decide +kernel⟩
abbrev s_parents_of : Stmt := top 54
theorem sc_parents_of : FnScope ["copies", "draws", "member"] ["copies", "draws"] (defScope s_parents_of) := ⟨rfl, rfl, rfl, by decide +kernel, rfl, by decide +kernel, by decide +kernel⟩
abbrev s_ancestors_of : Stmt := top 55
theorem sc_ancestors_of : FnScope ["copies", "draw_rows", "t", "ancestors", "step"] ["copies", "draw_rows", "t"] (defScope s_ancestors_of) := ⟨rfl, rfl, rfl, by decide +kernel, rfl, by decide +kernel, by decide +kernel⟩
abbrev s_common_ancestor : Stmt := top 56
theorem sc_common_ancestor : FnScope ["copies", "draw_rows", "ancestors", "t"] ["copies", "draw_rows"] (defScope s_common_ancestor) := ⟨rfl, rfl, rfl, by decide +kernel, rfl, by decide +kernel, by decide +kernel⟩
abbrev s_answer_found : Stmt := top 61
theorem sc_answer_found : FnScope ["population", "wholes", "lists", "kinds"] ["population", "wholes", "lists"] (defScope s_answer_found) := ⟨rfl, rfl, rfl, by decide +kernel, rfl, by decide +kernel, by decide +kernel⟩
abbrev s_answer_now : Stmt := top 62
theorem sc_answer_now : FnScope ["population", "wholes", "lists"] ["population", "wholes", "lists"] (defScope s_answer_now) := ⟨rfl, rfl, rfl, by decide +kernel, rfl, by decide +kernel, by decide +kernel⟩
abbrev s_answer_turn : Stmt := top 63
theorem sc_answer_turn : FnScope ["population", "wholes", "lists", "draws", "n"] ["population", "wholes", "lists"] (defScope s_answer_turn) := ⟨rfl, rfl, rfl, by decide +kernel, rfl, by decide +kernel, by decide +kernel⟩
abbrev s_answer_undo : Stmt := top 64
theorem sc_answer_undo : FnScope ["population", "wholes", "lists"] ["population", "wholes", "lists"] (defScope s_answer_undo) := ⟨rfl, rfl, rfl, by decide +kernel, rfl, by decide +kernel, by decide +kernel⟩
abbrev s_answer_number : Stmt := top 65
theorem sc_answer_number : FnScope ["population", "wholes", "lists", "kind"] ["population", "wholes", "lists"] (defScope s_answer_number) := ⟨rfl, rfl, rfl, by decide +kernel, rfl, by decide +kernel, by decide +kernel⟩
abbrev s_answer_back : Stmt := top 66
theorem sc_answer_back : FnScope ["population", "wholes", "lists", "t", "member"] ["population", "wholes", "lists"] (defScope s_answer_back) := ⟨rfl, rfl, rfl, by decide +kernel, rfl, by decide +kernel, by decide +kernel⟩
abbrev s_answer_common : Stmt := top 67
theorem sc_answer_common : FnScope ["population", "wholes", "lists", "copies", "n", "meeting"] ["population", "wholes", "lists"] (defScope s_answer_common) := ⟨rfl, rfl, rfl, by decide +kernel, rfl, by decide +kernel, by decide +kernel⟩
abbrev s_answer_lines : Stmt := top 68
theorem sc_answer_lines : FnScope ["population", "wholes", "lists", "t", "copies", "ancestors"] ["population", "wholes", "lists"] (defScope s_answer_lines) := ⟨rfl, rfl, rfl, by decide +kernel, rfl, by decide +kernel, by decide +kernel⟩
abbrev s_is_history_call : Stmt := top 70
theorem sc_is_history_call : FnScope ["number"] ["number"] (defScope s_is_history_call) := ⟨rfl, rfl, rfl, by decide +kernel, rfl, by decide +kernel, by decide +kernel⟩
abbrev s_answer_history : Stmt := top 71
theorem sc_answer_history : FnScope ["population", "number", "wholes", "lists", "handler"] ["population", "number", "wholes", "lists"] (defScope s_answer_history) := ⟨rfl, rfl, rfl, by decide +kernel, rfl, by decide +kernel, by decide +kernel⟩
abbrev s_Population___init__ : Stmt := inClass (top 73) 0
theorem sc_Population___init__ : FnScope ["self"] ["self"] (defScope s_Population___init__) := ⟨rfl, rfl, rfl, by decide +kernel, rfl, by decide +kernel, by decide +kernel⟩
abbrev s_Population_has_copies : Stmt := inClass (top 73) 1
theorem sc_Population_has_copies : FnScope ["self"] ["self"] (defScope s_Population_has_copies) := ⟨rfl, rfl, rfl, by decide +kernel, rfl, by decide +kernel, by decide +kernel⟩
abbrev s_Population_generation : Stmt := inClass (top 73) 2
theorem sc_Population_generation : FnScope ["self"] ["self"] (defScope s_Population_generation) := ⟨rfl, rfl, rfl, by decide +kernel, rfl, by decide +kernel, by decide +kernel⟩
abbrev s_Population_size : Stmt := inClass (top 73) 3
theorem sc_Population_size : FnScope ["self"] ["self"] (defScope s_Population_size) := ⟨rfl, rfl, rfl, by decide +kernel, rfl, by decide +kernel, by decide +kernel⟩
abbrev s_Population_newest_kinds : Stmt := inClass (top 73) 4
theorem sc_Population_newest_kinds : FnScope ["self"] ["self"] (defScope s_Population_newest_kinds) := ⟨rfl, rfl, rfl, by decide +kernel, rfl, by decide +kernel, by decide +kernel⟩
abbrev s_Population_begin : Stmt := inClass (top 73) 5
theorem sc_Population_begin : FnScope ["self", "kinds"] ["self", "kinds"] (defScope s_Population_begin) := ⟨rfl, rfl, rfl, by decide +kernel, rfl, by decide +kernel, by decide +kernel⟩
abbrev s_Population_turn : Stmt := inClass (top 73) 6
theorem sc_Population_turn : FnScope ["self", "draws", "kinds", "parent"] ["self", "draws"] (defScope s_Population_turn) := ⟨rfl, rfl, rfl, by decide +kernel, rfl, by decide +kernel, by decide +kernel⟩
abbrev s_Population_undo : Stmt := inClass (top 73) 7
theorem sc_Population_undo : FnScope ["self"] ["self"] (defScope s_Population_undo) := ⟨rfl, rfl, rfl, by decide +kernel, rfl, by decide +kernel, by decide +kernel⟩
abbrev s_Reader___init__ : Stmt := inClass (top 76) 0
theorem sc_Reader___init__ : FnScope ["self", "numbers"] ["self", "numbers"] (defScope s_Reader___init__) := ⟨rfl, rfl, rfl, by decide +kernel, rfl, by decide +kernel, by decide +kernel⟩
abbrev s_Reader_is_at_end : Stmt := inClass (top 76) 1
theorem sc_Reader_is_at_end : FnScope ["self"] ["self"] (defScope s_Reader_is_at_end) := ⟨rfl, rfl, rfl, by decide +kernel, rfl, by decide +kernel, by decide +kernel⟩
abbrev s_Reader_take : Stmt := inClass (top 76) 2
theorem sc_Reader_take : FnScope ["self", "amount", "taken"] ["self", "amount"] (defScope s_Reader_take) := ⟨rfl, rfl, rfl, by decide +kernel, rfl, by decide +kernel, by decide +kernel⟩
abbrev s_shape_of : Stmt := top 77
theorem sc_shape_of : FnScope ["number"] ["number"] (defScope s_shape_of) := ⟨rfl, rfl, rfl, by decide +kernel, rfl, by decide +kernel, by decide +kernel⟩
abbrev s_read_call : Stmt := top 78
theorem sc_read_call : FnScope ["reader", "head", "shape", "rows", "step", "amount"] ["reader"] (defScope s_read_call) := ⟨rfl, rfl, rfl, by decide +kernel, rfl, by decide +kernel, by decide +kernel⟩
abbrev s_read_calls : Stmt := top 79
theorem sc_read_calls : FnScope ["numbers", "reader", "calls"] ["numbers"] (defScope s_read_calls) := ⟨rfl, rfl, rfl, by decide +kernel, rfl, by decide +kernel, by decide +kernel⟩
abbrev s_is_call : Stmt := top 82
theorem sc_is_call : FnScope ["rows", "number", "shape"] ["rows"] (defScope s_is_call) := ⟨rfl, rfl, rfl, by decide +kernel, rfl, by decide +kernel, by decide +kernel⟩
abbrev s_answer_call : Stmt := top 83
theorem sc_answer_call : FnScope ["population", "rows", "number", "wholes", "lists"] ["population", "rows"] (defScope s_answer_call) := ⟨rfl, rfl, rfl, by decide +kernel, rfl, by decide +kernel, by decide +kernel⟩
abbrev s_answers : Stmt := top 84
theorem sc_answers : FnScope ["calls", "population", "told", "rows", "answer"] ["calls"] (defScope s_answers) := ⟨rfl, rfl, rfl, by decide +kernel, rfl, by decide +kernel, by decide +kernel⟩
end Gd
end
section
namespace Gd
open Vbecaj
theorem ite_some {α : Type} {c : Prop} [Decidable c] {a r : α} {b : Option α} (h : (if c then some a else b) = some r) : (c ∧ a = r) ∨ (¬ c ∧ b = some r) := by
  by_cases e : c
  · rw [if_pos e] at h; exact .inl ⟨e, Option.some.inj h⟩
  · rw [if_neg e] at h; exact .inr ⟨e, h⟩
theorem shape_cases {p : Int} {n k : Nat} (h : PyVbecaj.shape p = some (n, k)) :
    (p = 0 ∧ n = 0 ∧ k = 1) ∨ (p = 1 ∧ n = 0 ∧ k = 0) ∨ (p = 2 ∧ n = 0 ∧ k = 1) ∨ (p = 3 ∧ n = 0 ∧ k = 0) ∨ (p = 4 ∧ n = 1 ∧ k = 0) ∨ (p = 5 ∧ n = 2 ∧ k = 0) ∨ (p = 6 ∧ n = 0 ∧ k = 1) ∨ (p = 7 ∧ n = 1 ∧ k = 0) ∨ (p = 8 ∧ n = 1 ∧ k = 0) ∨
    (p = 9 ∧ n = 3 ∧ k = 0) ∨ (p = 10 ∧ n = 2 ∧ k = 0) ∨ (p = 11 ∧ n = 3 ∧ k = 0) ∨ (p = 12 ∧ n = 1 ∧ k = 0) ∨ (p = 13 ∧ n = 2 ∧ k = 0) ∨ (p = 14 ∧ n = 0 ∧ k = 2) ∨ (p = 15 ∧ n = 3 ∧ k = 0) ∨ (p = 16 ∧ n = 3 ∧ k = 0) := by
  unfold PyVbecaj.shape at h
  rcases ite_some h with ⟨e, q⟩ | ⟨_, h⟩
  · cases q; exact .inl ⟨e, rfl, rfl⟩
  rcases ite_some h with ⟨e, q⟩ | ⟨_, h⟩
  · cases q; exact .inr (.inl ⟨e, rfl, rfl⟩)
  rcases ite_some h with ⟨e, q⟩ | ⟨_, h⟩
  · cases q; exact .inr (.inr (.inl ⟨e, rfl, rfl⟩))
  rcases ite_some h with ⟨e, q⟩ | ⟨_, h⟩
  · cases q; exact .inr (.inr (.inr (.inl ⟨e, rfl, rfl⟩)))
  rcases ite_some h with ⟨e, q⟩ | ⟨_, h⟩
  · cases q; exact .inr (.inr (.inr (.inr (.inl ⟨e, rfl, rfl⟩))))
  rcases ite_some h with ⟨e, q⟩ | ⟨_, h⟩
  · cases q; exact .inr (.inr (.inr (.inr (.inr (.inl ⟨e, rfl, rfl⟩)))))
  rcases ite_some h with ⟨e, q⟩ | ⟨_, h⟩
  · cases q; exact .inr (.inr (.inr (.inr (.inr (.inr (.inl ⟨e, rfl, rfl⟩))))))
  rcases ite_some h with ⟨e, q⟩ | ⟨_, h⟩
  · cases q; exact .inr (.inr (.inr (.inr (.inr (.inr (.inr (.inl ⟨e, rfl, rfl⟩)))))))
  rcases ite_some h with ⟨e, q⟩ | ⟨_, h⟩
  · cases q; exact .inr (.inr (.inr (.inr (.inr (.inr (.inr (.inr (.inl ⟨e, rfl, rfl⟩))))))))
  rcases ite_some h with ⟨e, q⟩ | ⟨_, h⟩
  · cases q; exact .inr (.inr (.inr (.inr (.inr (.inr (.inr (.inr (.inr (.inl ⟨e, rfl, rfl⟩)))))))))
  rcases ite_some h with ⟨e, q⟩ | ⟨_, h⟩
  · cases q; exact .inr (.inr (.inr (.inr (.inr (.inr (.inr (.inr (.inr (.inr (.inl ⟨e, rfl, rfl⟩))))))))))
  rcases ite_some h with ⟨e, q⟩ | ⟨_, h⟩
  · cases q; exact .inr (.inr (.inr (.inr (.inr (.inr (.inr (.inr (.inr (.inr (.inr (.inl ⟨e, rfl, rfl⟩)))))))))))
  rcases ite_some h with ⟨e, q⟩ | ⟨_, h⟩
  · cases q; exact .inr (.inr (.inr (.inr (.inr (.inr (.inr (.inr (.inr (.inr (.inr (.inr (.inl ⟨e, rfl, rfl⟩))))))))))))
  rcases ite_some h with ⟨e, q⟩ | ⟨_, h⟩
  · cases q; exact .inr (.inr (.inr (.inr (.inr (.inr (.inr (.inr (.inr (.inr (.inr (.inr (.inr (.inl ⟨e, rfl, rfl⟩)))))))))))))
  rcases ite_some h with ⟨e, q⟩ | ⟨_, h⟩
  · cases q; exact .inr (.inr (.inr (.inr (.inr (.inr (.inr (.inr (.inr (.inr (.inr (.inr (.inr (.inr (.inl ⟨e, rfl, rfl⟩))))))))))))))
  rcases ite_some h with ⟨e, q⟩ | ⟨_, h⟩
  · cases q; exact .inr (.inr (.inr (.inr (.inr (.inr (.inr (.inr (.inr (.inr (.inr (.inr (.inr (.inr (.inr (.inl ⟨e, rfl, rfl⟩)))))))))))))))
  rcases ite_some h with ⟨e, q⟩ | ⟨_, h⟩
  · cases q; exact .inr (.inr (.inr (.inr (.inr (.inr (.inr (.inr (.inr (.inr (.inr (.inr (.inr (.inr (.inr (.inr (⟨e, rfl, rfl⟩))))))))))))))))
  cases h
theorem whole_ok {c : List (List Int)} (h : PyFlat.okCall PyVbecaj.shape c) : PyVbecaj.whole c = c := by
  obtain ⟨p, a, xs, rfl, hs⟩ := h
  rcases shape_cases hs with ⟨rfl, ha, hx⟩ | ⟨rfl, ha, hx⟩ | ⟨rfl, ha, hx⟩ | ⟨rfl, ha, hx⟩ | ⟨rfl, ha, hx⟩ | ⟨rfl, ha, hx⟩ | ⟨rfl, ha, hx⟩ | ⟨rfl, ha, hx⟩ | ⟨rfl, ha, hx⟩ | ⟨rfl, ha, hx⟩ | ⟨rfl, ha, hx⟩ | ⟨rfl, ha, hx⟩ | ⟨rfl, ha, hx⟩ | ⟨rfl, ha, hx⟩ | ⟨rfl, ha, hx⟩ | ⟨rfl, ha, hx⟩ | ⟨rfl, ha, hx⟩
  · match a, xs, ha, hx with | [], [_], _, _ => rfl
  · match a, xs, ha, hx with | [], [], _, _ => rfl
  · match a, xs, ha, hx with | [], [_], _, _ => rfl
  · match a, xs, ha, hx with | [], [], _, _ => rfl
  · match a, xs, ha, hx with | [_], [], _, _ => rfl
  · match a, xs, ha, hx with | [_, _], [], _, _ => rfl
  · match a, xs, ha, hx with | [], [_], _, _ => rfl
  · match a, xs, ha, hx with | [_], [], _, _ => rfl
  · match a, xs, ha, hx with | [_], [], _, _ => rfl
  · match a, xs, ha, hx with | [_, _, _], [], _, _ => rfl
  · match a, xs, ha, hx with | [_, _], [], _, _ => rfl
  · match a, xs, ha, hx with | [_, _, _], [], _, _ => rfl
  · match a, xs, ha, hx with | [_], [], _, _ => rfl
  · match a, xs, ha, hx with | [_, _], [], _, _ => rfl
  · match a, xs, ha, hx with | [], [_, _], _, _ => rfl
  · match a, xs, ha, hx with | [_, _, _], [], _, _ => rfl
  · match a, xs, ha, hx with | [_, _, _], [], _, _ => rfl
theorem calls_some {l : List Int} {cs : List (List (List Int))} (h : PyVbecaj.calls l = some cs) : l = PyFlat.put cs ∧ ∀ c ∈ cs, PyFlat.okCall PyVbecaj.shape c := by
  unfold PyVbecaj.calls at h
  cases e : PyFlat.calls PyVbecaj.shape l.length l with
  | none => rw [e] at h; cases h
  | some ds =>
    rw [e] at h
    have q : ds.map PyVbecaj.whole = cs := Option.some.inj h
    have r := PyFlat.put_calls _ _ _ e
    have w : ds.map PyVbecaj.whole = ds := by
      have := List.map_congr_left (l := ds) (f := PyVbecaj.whole) (g := id) fun c hc => whole_ok (r.2 c hc)
      rw [this, List.map_id]
    rw [w] at q
    subst q
    exact r
theorem climb_append (a b : List (List Nat)) (c : Nat) : climb (a ++ b) c = climb b (climb a c) := by
  induction a generalizing c with
  | nil => rfl
  | cons p r ih => exact ih _
theorem back_zero (s : State) (c : Nat) : s.back 0 c = c := rfl
theorem back_succ {s : State} {t : Nat} {p : List Nat} (c : Nat) (h : s.turns[t]? = some p) : s.back (t + 1) c = p.getD (s.back t c) 0 := by
  unfold State.back
  have e : s.turns.take (t + 1) = s.turns.take t ++ [p] := by
    rw [List.take_add_one, h]; rfl
  rw [e, climb_append]; rfl
structure Fm (s : State) : Prop where
  lo : 1 ≤ s.size
  hi : s.size ≤ 15
  gen : s.turns.length ≤ 100
  kin : ∀ k ∈ s.kinds, k ≤ 9
  rows : ∀ r ∈ s.turns, r.length = s.size ∧ ∀ x ∈ r, x < s.size
theorem getD_lt {r : List Nat} {n c : Nat} (hl : r.length = n) (hx : ∀ x ∈ r, x < n) (hc : c < n) : r.getD c 0 < n := by
  have : c < r.length := by omega
  rw [List.getD_eq_getElem?_getD, List.getElem?_eq_getElem this]
  exact hx _ (List.getElem_mem this)
theorem climb_lt {n : Nat} : ∀ (l : List (List Nat)), (∀ r ∈ l, r.length = n ∧ ∀ x ∈ r, x < n) → ∀ c, c < n → climb l c < n
  | [], _, c, h => h
  | p :: r, hl, c, h => climb_lt r (fun q hq => hl q (List.mem_cons_of_mem _ hq)) _ (getD_lt (hl p (List.mem_cons_self ..)).1 (hl p (List.mem_cons_self ..)).2 h)
theorem Fm.back_lt {s : State} (f : Fm s) (t : Nat) {c : Nat} (h : c < s.size) : s.back t c < s.size :=
  climb_lt _ (fun r hr => f.rows r (List.mem_of_mem_take hr)) c h
theorem now_length (s : State) : s.now.length = s.size := by unfold State.now; simp
theorem now_get {s : State} {c : Nat} (h : c < s.size) : s.now[c]? = some (s.kinds.getD (s.back s.generation c) 0) := by
  unfold State.now
  rw [List.getElem?_map, List.getElem?_range h]; rfl
theorem now_zero {s : State} (h : s.turns = []) : s.now = s.kinds := by
  refine List.ext_getElem? fun i => ?_
  by_cases hi : i < s.size
  · rw [now_get hi]
    have e : s.back s.generation i = i := by unfold State.back State.generation; rw [h]; rfl
    rw [e, List.getD_eq_getElem?_getD, List.getElem?_eq_getElem (show i < s.kinds.length from hi)]; rfl
  · rw [List.getElem?_eq_none (by rw [now_length]; omega), List.getElem?_eq_none (show s.kinds.length ≤ i from Nat.le_of_not_lt hi)]
theorem now_turn {s : State} {l : List Nat} (hl : l.length = s.size) (hx : ∀ x ∈ l, x < s.size) :
    ({ s with turns := l :: s.turns } : State).now = l.map fun c => s.now.getD c 0 := by
  refine List.ext_getElem? fun i => ?_
  by_cases hi : i < s.size
  · have hi' : i < l.length := by omega
    rw [now_get (s := { s with turns := l :: s.turns }) hi, List.getElem?_map, List.getElem?_eq_getElem hi']
    have hc : l[i] < s.size := hx _ (List.getElem_mem hi')
    show _ = some (s.now.getD l[i] 0)
    rw [List.getD_eq_getElem?_getD (l := s.now), now_get hc]
    show some (s.kinds.getD (climb ((l :: s.turns).take (s.turns.length + 1)) i) 0) = some (s.kinds.getD (climb (s.turns.take s.turns.length) l[i]) 0)
    have e : l.getD i 0 = l[i] := by rw [List.getD_eq_getElem?_getD, List.getElem?_eq_getElem hi']; rfl
    rw [List.take_succ_cons, ← e]; rfl
  · rw [List.getElem?_eq_none (by rw [now_length]; exact Nat.le_of_not_lt hi), List.getElem?_eq_none (by rw [List.length_map]; omega)]
theorem mem_different {y : Nat} : ∀ {l : List Nat}, y ∈ different l ↔ y ∈ l
  | [] => Iff.rfl
  | x :: l => by
    unfold different
    rw [List.mem_cons, List.mem_cons, List.mem_filter, mem_different]
    constructor
    · rintro (h | ⟨h, _⟩)
      · exact .inl h
      · exact .inr h
    · rintro (h | h)
      · exact .inl h
      · by_cases e : y = x
        · exact .inl e
        · exact .inr ⟨h, by simp [e]⟩
theorem nodup_different : ∀ (l : List Nat), (different l).Nodup
  | [] => List.nodup_nil
  | x :: l => by
    unfold different
    refine List.nodup_cons.mpr ⟨?_, (nodup_different l).filter _⟩
    intro h
    have := (List.mem_filter.mp h).2
    simp at this
theorem nodup_le {α : Type} [DecidableEq α] : ∀ {l m : List α}, l.Nodup → (∀ x ∈ l, x ∈ m) → l.length ≤ m.length
  | [], _, _, _ => Nat.zero_le _
  | a :: l, m, hn, hs => by
    have ha : a ∈ m := hs a (List.mem_cons_self ..)
    have hl := nodup_le (l := l) (m := m.erase a) (List.nodup_cons.mp hn).2 fun x hx => by
      have hne : x ≠ a := fun e => (List.nodup_cons.mp hn).1 (e ▸ hx)
      exact (List.mem_erase_of_ne hne).mpr (hs x (List.mem_cons_of_mem _ hx))
    rw [List.length_erase_of_mem ha] at hl
    have : 0 < m.length := List.length_pos_of_mem ha
    rw [List.length_cons]; omega
theorem different_length {l : List Nat} {m : List Int} (hn : m.Nodup) (hm : ∀ z, z ∈ m ↔ ∃ x ∈ l, z = (x : Int)) : m.length = (different l).length := by
  have e : ((different l).map fun (x : Nat) => (x : Int)).length = (different l).length := List.length_map ..
  have hd : ((different l).map fun (x : Nat) => (x : Int)).Nodup := by
    refine List.Pairwise.map _ (fun a b h => ?_) (nodup_different l)
    intro q; exact h (by omega)
  refine Nat.le_antisymm ?_ ?_
  · rw [← e]
    refine nodup_le hn fun z hz => ?_
    obtain ⟨x, hx, rfl⟩ := (hm z).mp hz
    exact List.mem_map.mpr ⟨x, mem_different.mpr hx, rfl⟩
  · rw [← e]
    refine nodup_le hd fun z hz => ?_
    obtain ⟨x, hx, rfl⟩ := List.mem_map.mp hz
    exact (hm _).mpr ⟨x, mem_different.mp hx, rfl⟩
theorem different_pos {l : List Nat} (h : l ≠ []) : 1 ≤ (different l).length := by
  cases l with
  | nil => exact absurd rfl h
  | cons x l => unfold different; rw [List.length_cons]; omega
theorem find_range_some {P : Nat → Bool} : ∀ {n t : Nat}, t < n → (∀ u, u < t → P u = false) → P t = true → (List.range n).find? P = some t := by
  intro n
  induction n with
  | zero => intro t h; omega
  | succ n ih =>
    intro t h hb ht
    rw [List.range_succ, List.find?_append]
    by_cases e : t < n
    · rw [ih e hb ht]; rfl
    · have et : t = n := by omega
      subst et
      have : (List.range t).find? P = none := List.find?_eq_none.mpr fun u hu => by
        rw [hb u (List.mem_range.mp hu)]; exact Bool.false_ne_true
      rw [this]
      simp [ht]
theorem find_range_none {P : Nat → Bool} {n : Nat} (h : ∀ u, u < n → P u = false) : (List.range n).find? P = none :=
  List.find?_eq_none.mpr fun u hu => by rw [h u (List.mem_range.mp hu)]; exact Bool.false_ne_true
theorem common_some {s : State} {l : List Nat} {t : Nat} (ht : t ≤ s.generation) (hb : ∀ u, u < t → (s.lines u l).length ≠ 1) (h : (s.lines t l).length = 1) : s.common l = some t := by
  unfold State.common
  exact find_range_some (by omega) (fun u hu => by simp [hb u hu]) (by simp [h])
theorem common_none {s : State} {l : List Nat} (hb : ∀ u, u ≤ s.generation → (s.lines u l).length ≠ 1) : s.common l = none := by
  unfold State.common
  exact find_range_none fun u hu => by simp [hb u (by omega)]
def kr (k : List Nat) : List (List Nat) → List (List Nat)
  | [] => [(State.mk k []).now]
  | l :: r => kr k r ++ [(State.mk k (l :: r)).now]
theorem kr_snoc (k : List Nat) (t : List (List Nat)) : ∃ X, kr k t = X ++ [(State.mk k t).now] := by
  cases t with
  | nil => exact ⟨[], rfl⟩
  | cons l r => exact ⟨kr k r, rfl⟩
theorem kr_length (k : List Nat) : ∀ t : List (List Nat), (kr k t).length = t.length + 1
  | [] => rfl
  | l :: r => by
    show (kr k r ++ [_]).length = _
    rw [List.length_append, kr_length k r]; rfl
theorem kr_head (k : List Nat) : ∀ t : List (List Nat), (kr k t)[0]? = some (State.mk k []).now
  | [] => rfl
  | l :: r => by
    show (kr k r ++ [_])[0]? = _
    rw [List.getElem?_append_left (by rw [kr_length]; omega), kr_head k r]
theorem kr_rows (k : List Nat) : ∀ t : List (List Nat), ∀ x ∈ kr k t, x.length = k.length
  | [], x, h => by
    have e : x = (State.mk k []).now := List.mem_singleton.mp h
    rw [e]; exact now_length _
  | l :: r, x, h => by
    rcases List.mem_append.mp (show x ∈ kr k r ++ [_] from h) with h | h
    · exact kr_rows k r x h
    · rw [List.mem_singleton.mp h]; exact now_length _
end Gd
end
section
set_option Elab.async false
namespace Gd
open Vbecaj (choose falling parts ways1 later single waysFrom ways firstFrom first before mergeFrom merge unlike toward takes lowest)
theorem choose_zero (n : Nat) : choose n 0 = 1 := by cases n <;> rfl
theorem choose_gt : ∀ {n k : Nat}, n < k → choose n k = 0
  | 0, _ + 1, _ => rfl
  | n + 1, k + 1, h => by
    show choose n k + choose n (k + 1) = 0
    rw [choose_gt (by omega), choose_gt (by omega)]
theorem choose_step : ∀ n k : Nat, choose n (k + 1) * (k + 1) = choose n k * (n - k)
  | 0, 0 => rfl
  | 0, k + 1 => by
    show 0 * _ = 0 * _
    rw [Nat.zero_mul, Nat.zero_mul]
  | n + 1, 0 => by
    have h := choose_step n 0
    rw [choose_zero] at h
    show (choose n 0 + choose n 1) * 1 = choose (n + 1) 0 * (n + 1)
    rw [choose_zero, choose_zero]
    rw [Nat.zero_add, Nat.mul_one, Nat.one_mul, Nat.sub_zero] at h
    rw [h]
    omega
  | n + 1, k + 1 => by
    have h1 := choose_step n (k + 1)
    have h2 := choose_step n k
    show (choose n (k + 1) + choose n (k + 2)) * (k + 2) = (choose n k + choose n (k + 1)) * (n + 1 - (k + 1))
    have e : n + 1 - (k + 1) = n - k := by omega
    rw [e, Nat.add_mul, Nat.add_mul, h1, ← h2]
    by_cases h : k + 1 ≤ n
    · rw [← Nat.mul_add, ← Nat.mul_add]
      congr 1
      omega
    · have z : choose n (k + 1) = 0 := choose_gt (by omega)
      rw [z]
      simp
theorem choose_div (n k : Nat) : choose n k * (n - k) / (k + 1) = choose n (k + 1) := by
  rw [← choose_step, Nat.mul_div_cancel _ (Nat.succ_pos k)]
theorem binom_le (a b : Nat) : ∀ n j : Nat, choose n j * a ^ j * b ^ (n - j) ≤ (a + b) ^ n
  | 0, 0 => by simp [choose]
  | 0, j + 1 => by simp [choose]
  | n + 1, 0 => by
    rw [choose_zero, Nat.pow_zero, Nat.mul_one, Nat.one_mul]
    exact Nat.pow_le_pow_left (Nat.le_add_left b a) _
  | n + 1, j + 1 => by
    have h1 := binom_le a b n j
    have h2 := binom_le a b n (j + 1)
    have e : n + 1 - (j + 1) = n - j := by omega
    show (choose n j + choose n (j + 1)) * a ^ (j + 1) * b ^ (n + 1 - (j + 1)) ≤ _
    rw [e, Nat.add_mul, Nat.add_mul]
    have g1 : choose n j * a ^ (j + 1) * b ^ (n - j) = a * (choose n j * a ^ j * b ^ (n - j)) := by rw [Nat.pow_succ]; grind
    have g2 : choose n (j + 1) * a ^ (j + 1) * b ^ (n - j) = b * (choose n (j + 1) * a ^ (j + 1) * b ^ (n - (j + 1))) := by
      by_cases h : j + 1 ≤ n
      · have e2 : n - j = (n - (j + 1)) + 1 := by omega
        rw [e2, Nat.pow_succ]; grind
      · rw [choose_gt (by omega)]; simp
    rw [g1, g2, Nat.pow_succ (n := a + b), Nat.mul_comm _ (a + b), Nat.add_mul]
    exact Nat.add_le_add (Nat.mul_le_mul_left _ h1) (Nat.mul_le_mul_left _ h2)
theorem choose_le (n j : Nat) : choose n j ≤ 2 ^ n := by
  have := binom_le 1 1 n j
  rw [Nat.one_pow, Nat.one_pow, Nat.mul_one, Nat.mul_one] at this
  exact this
theorem ways1_le {n i : Nat} (j : Nat) (h : i ≤ n) : ways1 n i j ≤ n ^ n := by
  have := binom_le i (n - i) n j
  rw [Nat.add_sub_cancel' h] at this
  exact this
theorem falling_gt : ∀ {n k : Nat}, n < k → falling n k = 0
  | 0, _ + 1, _ => by show 0 * _ = 0; rw [Nat.zero_mul]
  | n + 1, k + 1, h => by
    show (n + 1) * falling (n + 1 - 1) k = 0
    rw [Nat.add_sub_cancel, falling_gt (by omega), Nat.mul_zero]
theorem falling_zero (n : Nat) : falling n 0 = 1 := by cases n <;> rfl
theorem falling_step : ∀ k n : Nat, falling n (k + 1) = falling n k * (n - k)
  | 0, n => by
    show n * falling (n - 1) 0 = falling n 0 * (n - 0)
    rw [falling_zero, falling_zero]; omega
  | k + 1, n => by
    show n * falling (n - 1) (k + 1) = n * falling (n - 1) k * (n - (k + 1))
    rw [falling_step k (n - 1), Nat.mul_assoc]
    have e : n - 1 - k = n - (k + 1) := by omega
    rw [e]
def surj (n m k : Nat) : Nat := parts m k * falling n k
theorem surj_zero (n k : Nat) : surj n 0 k = if k = 0 then 1 else 0 := by
  unfold surj
  cases k with
  | zero => rw [falling_zero]; rfl
  | succ k => rw [if_neg (by omega)]; show 0 * _ = 0; rw [Nat.zero_mul]
theorem surj_succ0 (n m : Nat) : surj n (m + 1) 0 = 0 := by
  show 0 * _ = 0
  rw [Nat.zero_mul]
theorem surj_succ (n m k : Nat) : surj n (m + 1) (k + 1) = surj n m (k + 1) * (k + 1) + surj n m k * (n - k) := by
  unfold surj
  show ((k + 1) * parts m (k + 1) + parts m k) * falling n (k + 1) = _
  rw [Nat.add_mul]
  have h : parts m k * falling n (k + 1) = parts m k * falling n k * (n - k) := by rw [falling_step, Nat.mul_assoc]
  rw [h]
  congr 1
  grind
theorem surj_le (n : Nat) : ∀ m k : Nat, surj n m k ≤ (n + 1) ^ m
  | 0, k => by rw [surj_zero]; split <;> simp
  | m + 1, 0 => by rw [surj_succ0]; exact Nat.zero_le _
  | m + 1, k + 1 => by
    rw [surj_succ]
    have h1 := surj_le n m (k + 1)
    have h2 := surj_le n m k
    by_cases h : k + 1 ≤ n + 1
    · have a1 := Nat.mul_le_mul_right (k + 1) h1
      have a2 := Nat.mul_le_mul_right (n - k) h2
      rw [Nat.pow_succ]
      refine Nat.le_trans (Nat.add_le_add a1 a2) ?_
      rw [← Nat.mul_add]
      exact Nat.mul_le_mul_left _ (by omega)
    · have z : surj n m (k + 1) = 0 := by unfold surj; rw [falling_gt (by omega), Nat.mul_zero]
      have z2 : n - k = 0 := by omega
      rw [z, z2, Nat.zero_mul, Nat.mul_zero]
      exact Nat.zero_le _
def row (n : Nat) (g : Nat → Nat) : List Nat := (List.range (n + 1)).map g
theorem row_length (n : Nat) (g : Nat → Nat) : (row n g).length = n + 1 := by
  unfold row; rw [List.length_map, List.length_range]
theorem row_get {n j : Nat} (g : Nat → Nat) (h : j ≤ n) : (row n g)[j]? = some (g j) := by
  unfold row; rw [List.getElem?_map, List.getElem?_range (by omega)]; rfl
theorem row_getD {n j : Nat} (g : Nat → Nat) (h : j ≤ n) : (row n g).getD j 0 = g j := by
  rw [List.getD_eq_getElem?_getD, row_get g h]; rfl
theorem row_set {n j : Nat} (g : Nat → Nat) (y : Nat) (h : j ≤ n) : (row n g).set j y = row n fun k => if k = j then y else g k := by
  refine List.ext_getElem? fun i => ?_
  rw [List.getElem?_set, row_length]
  by_cases hi : i ≤ n
  · by_cases e : j = i
    · subst e; rw [if_pos rfl, if_pos (by omega), row_get _ hi, if_pos rfl]
    · rw [if_neg e, row_get _ hi, row_get _ hi, if_neg (fun z => e z.symm)]
  · rw [if_neg (by omega), List.getElem?_eq_none (by rw [row_length]; omega), List.getElem?_eq_none (by rw [row_length]; omega)]
theorem row_congr {n : Nat} {g h : Nat → Nat} (e : ∀ k, k ≤ n → g k = h k) : row n g = row n h := by
  unfold row
  exact List.map_congr_left fun k hk => e k (by rw [List.mem_range] at hk; omega)
theorem row_self {n : Nat} {v : List Nat} (h : v.length = n + 1) : v = row n fun j => v.getD j 0 := by
  refine List.ext_getElem? fun i => ?_
  by_cases hi : i ≤ n
  · rw [row_get _ hi, List.getD_eq_getElem?_getD, List.getElem?_eq_getElem (by omega)]; rfl
  · rw [List.getElem?_eq_none (by omega), List.getElem?_eq_none (by rw [row_length]; omega)]
theorem row_const (n c : Nat) : List.replicate (n + 1) c = row n fun _ => c := by
  unfold row
  rw [List.map_const', List.length_range]
theorem single_row (n i : Nat) : single n i = row n fun k => if k = i then 1 else 0 := rfl
theorem single_length (n i : Nat) : (single n i).length = n + 1 := row_length n _
def sumTo (m : Nat) (g : Nat → Nat) : Nat := ((List.range m).map g).sum
theorem sumTo_zero (g : Nat → Nat) : sumTo 0 g = 0 := rfl
theorem sumTo_succ (m : Nat) (g : Nat → Nat) : sumTo (m + 1) g = sumTo m g + g m := by
  unfold sumTo
  rw [List.range_succ, List.map_append, List.sum_append]
  simp
def part (n m : Nat) (v : List Nat) (u : Nat → Nat → Nat) : List Nat := row n fun j => sumTo m fun i => v.getD i 0 * u i j
theorem part_zero (n : Nat) (v : List Nat) (u : Nat → Nat → Nat) : part n 0 v u = row n fun _ => 0 := rfl
theorem later_part (n : Nat) (v : List Nat) : later n v = part n (n + 1) v fun i j => ways1 n i j := rfl
theorem before_part (n : Nat) (v : List Nat) : before n v = part n (n + 1) v fun l k => parts l k * falling n k * n ^ (n - l) := rfl
theorem part_skip {n m : Nat} {v : List Nat} {u : Nat → Nat → Nat} (h : v.getD m 0 = 0) : part n (m + 1) v u = part n m v u := by
  unfold part
  refine row_congr fun k _ => ?_
  rw [sumTo_succ, h, Nat.zero_mul, Nat.add_zero]
def partIn (n m j : Nat) (v : List Nat) (u : Nat → Nat → Nat) : List Nat := row n fun k => (sumTo m fun i => v.getD i 0 * u i k) + if k < j then v.getD m 0 * u m k else 0
theorem partIn_zero (n m : Nat) (v : List Nat) (u : Nat → Nat → Nat) : partIn n m 0 v u = part n m v u := by
  unfold partIn part
  refine row_congr fun k _ => ?_
  rw [if_neg (by omega), Nat.add_zero]
theorem partIn_all (n m : Nat) (v : List Nat) (u : Nat → Nat → Nat) : partIn n m (n + 1) v u = part n (m + 1) v u := by
  unfold partIn part
  refine row_congr fun k hk => ?_
  rw [if_pos (by omega), sumTo_succ]
theorem partIn_get {n m j : Nat} (v : List Nat) (u : Nat → Nat → Nat) (h : j ≤ n) : (partIn n m j v u)[j]? = some (sumTo m fun i => v.getD i 0 * u i j) := by
  unfold partIn
  rw [row_get _ h, if_neg (by omega), Nat.add_zero]
theorem partIn_set {n m j : Nat} (v : List Nat) (u : Nat → Nat → Nat) (h : j ≤ n) : (partIn n m j v u).set j ((sumTo m fun i => v.getD i 0 * u i j) + v.getD m 0 * u m j) = partIn n m (j + 1) v u := by
  unfold partIn
  rw [row_set _ _ h]
  refine row_congr fun k _ => ?_
  by_cases e : k = j
  · subst e; rw [if_pos rfl, if_pos (by omega)]
  · rw [if_neg e]
    by_cases l : k < j
    · rw [if_pos l, if_pos (by omega)]
    · rw [if_neg l, if_neg (by omega)]
theorem partIn_length (n m j : Nat) (v : List Nat) (u : Nat → Nat → Nat) : (partIn n m j v u).length = n + 1 := row_length n _
theorem later_length (n : Nat) (v : List Nat) : (later n v).length = n + 1 := row_length n _
theorem before_length (n : Nat) (v : List Nat) : (before n v).length = n + 1 := row_length n _
theorem waysFrom_length (n : Nat) : ∀ (t : Nat) (v : List Nat), v.length = n + 1 → (waysFrom n t v).length = n + 1
  | 0, _, h => h
  | t + 1, v, _ => waysFrom_length n t (later n v) (later_length n v)
theorem mergeFrom_length (n : Nat) : ∀ (t : Nat) (v : List Nat), v.length = n + 1 → (mergeFrom n t v).length = n + 1
  | 0, _, h => h
  | t + 1, v, _ => mergeFrom_length n t (before n v) (before_length n v)
theorem getD_get' {l : List Nat} {j : Nat} (h : j < l.length) : l[j]? = some (l.getD j 0) := by
  rw [List.getD_eq_getElem?_getD, List.getElem?_eq_getElem h]; rfl
theorem unlike_row (n i t : Nat) : unlike n i t = sumTo (n + 1) fun j => (waysFrom n t (single n i)).getD j 0 * j * (n - j) := by
  have hl := waysFrom_length n t (single n i) (single_length n i)
  show ((((waysFrom n t (single n i)).zipIdx).map fun p => p.1 * (p.2 * (n - p.2))).sum) = _
  generalize waysFrom n t (single n i) = v at hl
  unfold sumTo
  congr 1
  refine List.ext_getElem? fun j => ?_
  rw [List.getElem?_map, List.getElem?_map, List.getElem?_zipIdx]
  by_cases hj : j < n + 1
  · rw [List.getElem?_range hj, getD_get' (by omega)]
    simp [Nat.mul_assoc]
  · rw [List.getElem?_eq_none (by omega), List.getElem?_eq_none (by rw [List.length_range]; omega)]
    rfl
theorem toward_step {n k x y : Nat} {c d : List Nat} (hc : c[k]? = some x) (hd : d[k]? = some y) : toward n (c.drop k) (d.drop k) = choose n y * x ^ y * toward (n - y) (c.drop (k + 1)) (d.drop (k + 1)) := by
  obtain ⟨h1, e1⟩ := List.getElem?_eq_some_iff.mp hc
  obtain ⟨h2, e2⟩ := List.getElem?_eq_some_iff.mp hd
  rw [List.drop_eq_getElem_cons h1, List.drop_eq_getElem_cons h2, e1, e2]
  rfl
theorem toward_end (c d : List Nat) {k : Nat} (h : k = c.length) : toward 0 (c.drop k) (d.drop k) = 1 := by
  subst h
  rw [List.drop_length]
  cases d.drop c.length <;> rfl
theorem sum_take_succ {l : List Nat} {i z : Nat} (h : l[i]? = some z) : (l.take (i + 1)).sum = (l.take i).sum + z := by
  rw [List.take_add_one, h, List.sum_append]
  simp
theorem sum_take_le : ∀ (l : List Nat) (i : Nat), (l.take i).sum ≤ l.sum
  | l, i => by
    have : l.sum = (l.take i).sum + (l.drop i).sum := by rw [← List.sum_append, List.take_append_drop]
    omega
def gains (n a b i : Nat) : Nat := sumTo i fun k => b ^ k * a ^ (n - 1 - k)
theorem gains_down {n a b : Nat} (hab : b ≤ a) : ∀ {i : Nat}, i ≤ n → a ^ n = a ^ (n - i) * b ^ i + (a - b) * gains n a b i
  | 0, _ => by unfold gains; rw [sumTo_zero]; simp
  | i + 1, h => by
    have ih := gains_down (n := n) hab (i := i) (by omega)
    unfold gains at ih ⊢
    rw [sumTo_succ]
    have e : n - i = (n - (i + 1)) + 1 := by omega
    have e2 : n - 1 - i = n - (i + 1) := by omega
    rw [ih, e2, e, Nat.pow_succ, Nat.pow_succ]
    generalize a ^ (n - (i + 1)) = A
    generalize b ^ i = B
    obtain ⟨c, rfl⟩ := Nat.exists_eq_add_of_le hab
    rw [Nat.add_sub_cancel_left]
    grind
theorem gains_up {n a b : Nat} (hab : a ≤ b) : ∀ {i : Nat}, i ≤ n → a ^ (n - i) * b ^ i = a ^ n + (b - a) * gains n a b i
  | 0, _ => by unfold gains; rw [sumTo_zero]; simp
  | i + 1, h => by
    have ih := gains_up (n := n) hab (i := i) (by omega)
    unfold gains at ih ⊢
    rw [sumTo_succ, Nat.mul_add, ← Nat.add_assoc, ← ih]
    have e : n - i = (n - (i + 1)) + 1 := by omega
    have e2 : n - 1 - i = n - (i + 1) := by omega
    rw [e2, e, Nat.pow_succ, Nat.pow_succ]
    generalize a ^ (n - (i + 1)) = A
    generalize b ^ i = B
    obtain ⟨c, rfl⟩ := Nat.exists_eq_add_of_le hab
    rw [Nat.add_sub_cancel_left]
    grind
theorem gains_same {n a : Nat} : ∀ {i : Nat}, i ≤ n → gains n a a i = a ^ (n - 1) * i
  | 0, _ => by unfold gains; rw [sumTo_zero]; simp
  | i + 1, h => by
    have ih := gains_same (n := n) (a := a) (i := i) (by omega)
    unfold gains at ih ⊢
    rw [sumTo_succ, ih, ← Nat.pow_add, Nat.mul_add, Nat.mul_one]
    have e : i + (n - 1 - i) = n - 1 := by omega
    rw [e]
theorem takes_gains {n i a b : Nat} (hi : i ≤ n) (ha : 0 < a) (hb : 0 < b) : ∃ c, 0 < c ∧ (takes n i a b = (c * gains n a b i, c * gains n a b n) ∨ (gains n a b i, gains n a b n) = (c * (takes n i a b).1, c * (takes n i a b).2)) := by
  unfold takes
  by_cases h : a = b
  · subst h
    refine ⟨a ^ (n - 1), Nat.pow_pos ha, .inr ?_⟩
    rw [if_pos rfl, gains_same hi, gains_same (Nat.le_refl n)]
  · rw [if_neg h]
    by_cases l : b < a
    · refine ⟨a - b, by omega, .inl ?_⟩
      rw [if_pos l]
      have h1 := gains_down (n := n) (Nat.le_of_lt l) hi
      have h2 := gains_down (n := n) (Nat.le_of_lt l) (Nat.le_refl n)
      rw [Nat.sub_self, Nat.pow_zero, Nat.one_mul] at h2
      have e1 : a ^ (n - i) * (a ^ i - b ^ i) = (a - b) * gains n a b i := by
        rw [Nat.mul_sub, ← Nat.pow_add, Nat.sub_add_cancel hi]; omega
      have e2 : a ^ n - b ^ n = (a - b) * gains n a b n := by omega
      rw [e1, e2]
    · refine ⟨b - a, by omega, .inl ?_⟩
      rw [if_neg l]
      have h1 := gains_up (n := n) (a := a) (b := b) (by omega) hi
      have h2 := gains_up (n := n) (a := a) (b := b) (by omega) (Nat.le_refl n)
      rw [Nat.sub_self, Nat.pow_zero, Nat.one_mul] at h2
      have e1 : a ^ (n - i) * (b ^ i - a ^ i) = (b - a) * gains n a b i := by
        rw [Nat.mul_sub, ← Nat.pow_add, Nat.sub_add_cancel hi]; omega
      have e2 : b ^ n - a ^ n = (b - a) * gains n a b n := by omega
      rw [e1, e2]
theorem lowest_scale {c x y : Nat} (hc : 0 < c) : lowest (c * x, c * y) = lowest (x, y) := by
  unfold lowest
  show (if Nat.gcd (c * x) (c * y) = 0 then (c * x, c * y) else (c * x / Nat.gcd (c * x) (c * y), c * y / Nat.gcd (c * x) (c * y))) = if Nat.gcd x y = 0 then (x, y) else (x / Nat.gcd x y, y / Nat.gcd x y)
  rw [Nat.gcd_mul_left]
  by_cases h : Nat.gcd x y = 0
  · obtain ⟨rfl, rfl⟩ := Nat.gcd_eq_zero_iff.mp h
    simp
  · rw [if_neg h, if_neg (fun z => h ((Nat.mul_eq_zero.mp z).resolve_left (by omega))), Nat.mul_div_mul_left _ _ hc, Nat.mul_div_mul_left _ _ hc]
theorem lowest_takes {n i a b : Nat} (hi : i ≤ n) (ha : 0 < a) (hb : 0 < b) : lowest (takes n i a b) = lowest (gains n a b i, gains n a b n) := by
  obtain ⟨c, hc, e | e⟩ := takes_gains hi ha hb
  · rw [e, lowest_scale hc]
  · rw [e, lowest_scale hc]
theorem lowest_pos {x y : Nat} (h : 0 < y) : lowest (x, y) = (x / Nat.gcd x y, y / Nat.gcd x y) := by
  unfold lowest
  have : Nat.gcd x y ≠ 0 := fun z => by
    have := (Nat.gcd_eq_zero_iff.mp z).2
    omega
  exact if_neg this
theorem gains_pos {n a b : Nat} (hn : 0 < n) (ha : 0 < a) : 0 < gains n a b n := by
  obtain ⟨m, rfl⟩ : ∃ m, n = m + 1 := ⟨n - 1, by omega⟩
  have h : ∀ i, 0 < gains (m + 1) a b (i + 1) := by
    intro i
    induction i with
    | zero =>
      unfold gains
      rw [sumTo_succ, sumTo_zero, Nat.pow_zero, Nat.one_mul, Nat.zero_add]
      exact Nat.pow_pos ha
    | succ i ih =>
      unfold gains at ih ⊢
      rw [sumTo_succ]; omega
  exact h m
end Gd
end
section
namespace Gd
open Vbecaj
theorem decode_ok {c : List (List Int)} (h : PyFlat.okCall PyVbecaj.shape c) : ∃ call, decode c = some call := by
  obtain ⟨p, a, xs, rfl, hs⟩ := h
  rcases shape_cases hs with ⟨rfl, ha, hx⟩ | ⟨rfl, ha, hx⟩ | ⟨rfl, ha, hx⟩ | ⟨rfl, ha, hx⟩ | ⟨rfl, ha, hx⟩ | ⟨rfl, ha, hx⟩ | ⟨rfl, ha, hx⟩ | ⟨rfl, ha, hx⟩ | ⟨rfl, ha, hx⟩ | ⟨rfl, ha, hx⟩ | ⟨rfl, ha, hx⟩ | ⟨rfl, ha, hx⟩ | ⟨rfl, ha, hx⟩ | ⟨rfl, ha, hx⟩ | ⟨rfl, ha, hx⟩ | ⟨rfl, ha, hx⟩ | ⟨rfl, ha, hx⟩
  · match a, xs, ha, hx with | [], [_], _, _ => exact ⟨_, rfl⟩
  · match a, xs, ha, hx with | [], [], _, _ => exact ⟨_, rfl⟩
  · match a, xs, ha, hx with | [], [_], _, _ => exact ⟨_, rfl⟩
  · match a, xs, ha, hx with | [], [], _, _ => exact ⟨_, rfl⟩
  · match a, xs, ha, hx with | [_], [], _, _ => exact ⟨_, rfl⟩
  · match a, xs, ha, hx with | [_, _], [], _, _ => exact ⟨_, rfl⟩
  · match a, xs, ha, hx with | [], [_], _, _ => exact ⟨_, rfl⟩
  · match a, xs, ha, hx with | [_], [], _, _ => exact ⟨_, rfl⟩
  · match a, xs, ha, hx with | [_], [], _, _ => exact ⟨_, rfl⟩
  · match a, xs, ha, hx with | [_, _, _], [], _, _ => exact ⟨_, rfl⟩
  · match a, xs, ha, hx with | [_, _], [], _, _ => exact ⟨_, rfl⟩
  · match a, xs, ha, hx with | [_, _, _], [], _, _ => exact ⟨_, rfl⟩
  · match a, xs, ha, hx with | [_], [], _, _ => exact ⟨_, rfl⟩
  · match a, xs, ha, hx with | [_, _], [], _, _ => exact ⟨_, rfl⟩
  · match a, xs, ha, hx with | [], [_, _], _, _ => exact ⟨_, rfl⟩
  · match a, xs, ha, hx with | [_, _, _], [], _, _ => exact ⟨_, rfl⟩
  · match a, xs, ha, hx with | [_, _, _], [], _, _ => exact ⟨_, rfl⟩
theorem step_ok {s : State} {c : List (List Int)} {call : Call} (h : decode c = some call) : VbecajNeutral.step s c = act s call := by
  show Vbecaj.step s c = act s call
  unfold Vbecaj.step
  rw [h]
def shp (c : Int) (ws : List Int) (lss : List (List Int)) (call : Call) : Prop := decode ((c :: ws) :: lss) = some call
theorem shp_found {ws : List Int} {lss : List (List Int)} {call : Call} (h : shp 0 ws lss call) : ∃ k, ws = [] ∧ lss = [k] ∧ call = .found k := by
  match ws, lss, h with
  | [], [k], h => exact ⟨k, rfl, rfl, (Option.some.inj h).symm⟩
theorem shp_now {ws : List Int} {lss : List (List Int)} {call : Call} (h : shp 1 ws lss call) : ws = [] ∧ lss = [] ∧ call = .now := by
  match ws, lss, h with
  | [], [], h => exact ⟨rfl, rfl, (Option.some.inj h).symm⟩
theorem shp_turn {ws : List Int} {lss : List (List Int)} {call : Call} (h : shp 2 ws lss call) : ∃ k, ws = [] ∧ lss = [k] ∧ call = .turn k := by
  match ws, lss, h with
  | [], [k], h => exact ⟨k, rfl, rfl, (Option.some.inj h).symm⟩
theorem shp_undo {ws : List Int} {lss : List (List Int)} {call : Call} (h : shp 3 ws lss call) : ws = [] ∧ lss = [] ∧ call = .undo := by
  match ws, lss, h with
  | [], [], h => exact ⟨rfl, rfl, (Option.some.inj h).symm⟩
theorem shp_number {ws : List Int} {lss : List (List Int)} {call : Call} (h : shp 4 ws lss call) : ∃ k, ws = [k] ∧ lss = [] ∧ call = .number k := by
  match ws, lss, h with
  | [k], [], h => exact ⟨k, rfl, rfl, (Option.some.inj h).symm⟩
theorem shp_back {ws : List Int} {lss : List (List Int)} {call : Call} (h : shp 5 ws lss call) : ∃ t m, ws = [t, m] ∧ lss = [] ∧ call = .back t m := by
  match ws, lss, h with
  | [t, m], [], h => exact ⟨t, m, rfl, rfl, (Option.some.inj h).symm⟩
theorem shp_common {ws : List Int} {lss : List (List Int)} {call : Call} (h : shp 6 ws lss call) : ∃ k, ws = [] ∧ lss = [k] ∧ call = .common k := by
  match ws, lss, h with
  | [], [k], h => exact ⟨k, rfl, rfl, (Option.some.inj h).symm⟩
theorem shp_lines {ws : List Int} {lss : List (List Int)} {call : Call} (h : shp 7 ws lss call) : ∃ t, ws = [t] ∧ lss = [] ∧ call = .lines t := by
  match ws, lss, h with
  | [t], [], h => exact ⟨t, rfl, rfl, (Option.some.inj h).symm⟩
theorem shp_all {ws : List Int} {lss : List (List Int)} {call : Call} (h : shp 8 ws lss call) : ∃ t, ws = [t] ∧ lss = [] ∧ call = .all t := by
  match ws, lss, h with
  | [t], [], h => exact ⟨t, rfl, rfl, (Option.some.inj h).symm⟩
theorem shp_ways {ws : List Int} {lss : List (List Int)} {call : Call} (h : shp 9 ws lss call) : ∃ i j t, ws = [i, j, t] ∧ lss = [] ∧ call = .ways i j t := by
  match ws, lss, h with
  | [i, j, t], [], h => exact ⟨i, j, t, rfl, rfl, (Option.some.inj h).symm⟩
theorem shp_first {ws : List Int} {lss : List (List Int)} {call : Call} (h : shp 10 ws lss call) : ∃ i t, ws = [i, t] ∧ lss = [] ∧ call = .first i t := by
  match ws, lss, h with
  | [i, t], [], h => exact ⟨i, t, rfl, rfl, (Option.some.inj h).symm⟩
theorem shp_merge {ws : List Int} {lss : List (List Int)} {call : Call} (h : shp 11 ws lss call) : ∃ m k t, ws = [m, k, t] ∧ lss = [] ∧ call = .merge m k t := by
  match ws, lss, h with
  | [m, k, t], [], h => exact ⟨m, k, t, rfl, rfl, (Option.some.inj h).symm⟩
theorem shp_alike {ws : List Int} {lss : List (List Int)} {call : Call} (h : shp 12 ws lss call) : ∃ t, ws = [t] ∧ lss = [] ∧ call = .alike t := by
  match ws, lss, h with
  | [t], [], h => exact ⟨t, rfl, rfl, (Option.some.inj h).symm⟩
theorem shp_unlike {ws : List Int} {lss : List (List Int)} {call : Call} (h : shp 13 ws lss call) : ∃ i t, ws = [i, t] ∧ lss = [] ∧ call = .unlike i t := by
  match ws, lss, h with
  | [i, t], [], h => exact ⟨i, t, rfl, rfl, (Option.some.inj h).symm⟩
theorem shp_toward {ws : List Int} {lss : List (List Int)} {call : Call} (h : shp 14 ws lss call) : ∃ c d, ws = [] ∧ lss = [c, d] ∧ call = .toward c d := by
  match ws, lss, h with
  | [], [c, d], h => exact ⟨c, d, rfl, rfl, (Option.some.inj h).symm⟩
theorem shp_takes {ws : List Int} {lss : List (List Int)} {call : Call} (h : shp 15 ws lss call) : ∃ i a b, ws = [i, a, b] ∧ lss = [] ∧ call = .takes i a b := by
  match ws, lss, h with
  | [i, a, b], [], h => exact ⟨i, a, b, rfl, rfl, (Option.some.inj h).symm⟩
theorem shp_chances {ws : List Int} {lss : List (List Int)} {call : Call} (h : shp 16 ws lss call) : ∃ i a b, ws = [i, a, b] ∧ lss = [] ∧ call = .chances i a b := by
  match ws, lss, h with
  | [i, a, b], [], h => exact ⟨i, a, b, rfl, rfl, (Option.some.inj h).symm⟩
theorem act_none {c : Int} {ws : List Int} {lss : List (List Int)} {call : Call} (h : shp c ws lss call) (hc : c ≠ 0) (hr : 0 ≤ c ∧ c ≤ 16) {s : State} (hs : s.size = 0) : act s call = (s, [-1]) := by
  have w : ∀ k, withCopies s k = (s, [-1]) := fun k => by unfold withCopies; rw [if_pos hs]; rfl
  obtain rfl | rfl | rfl | rfl | rfl | rfl | rfl | rfl | rfl | rfl | rfl | rfl | rfl | rfl | rfl | rfl : c = 1 ∨ c = 2 ∨ c = 3 ∨ c = 4 ∨ c = 5 ∨ c = 6 ∨ c = 7 ∨ c = 8 ∨ c = 9 ∨ c = 10 ∨ c = 11 ∨ c = 12 ∨ c = 13 ∨ c = 14 ∨ c = 15 ∨ c = 16 := by omega
  · obtain ⟨_, _, rfl⟩ := shp_now h
    unfold act; exact w _
  · obtain ⟨_, _, _, rfl⟩ := shp_turn h
    unfold act; exact w _
  · obtain ⟨_, _, rfl⟩ := shp_undo h
    unfold act; exact w _
  · obtain ⟨_, _, _, rfl⟩ := shp_number h
    unfold act; exact w _
  · obtain ⟨_, _, _, _, rfl⟩ := shp_back h
    unfold act; exact w _
  · obtain ⟨_, _, _, rfl⟩ := shp_common h
    unfold act; exact w _
  · obtain ⟨_, _, _, rfl⟩ := shp_lines h
    unfold act; exact w _
  · obtain ⟨_, _, _, rfl⟩ := shp_all h
    unfold act; exact w _
  · obtain ⟨_, _, _, _, _, rfl⟩ := shp_ways h
    unfold act; exact w _
  · obtain ⟨_, _, _, _, rfl⟩ := shp_first h
    unfold act; exact w _
  · obtain ⟨_, _, _, _, _, rfl⟩ := shp_merge h
    unfold act; exact w _
  · obtain ⟨_, _, _, rfl⟩ := shp_alike h
    unfold act; exact w _
  · obtain ⟨_, _, _, _, rfl⟩ := shp_unlike h
    unfold act; exact w _
  · obtain ⟨_, _, _, _, rfl⟩ := shp_toward h
    unfold act; exact w _
  · obtain ⟨_, _, _, _, _, rfl⟩ := shp_takes h
    unfold act; exact w _
  · obtain ⟨_, _, _, _, _, rfl⟩ := shp_chances h
    unfold act; exact w _
end Gd
end
section
set_option Elab.async false
set_option maxRecDepth 100000
set_option maxHeartbeats 2000000
set_option linter.all false
namespace Gd
open PySem PySem.Spec PyProof.Rows L2
theorem yes {σ : L2.St} {H : Hp} {Q : Bool → Hp → Prop} (h : Q true H) : tYes σ H Q := h
theorem bt_list : bootBuiltins "list" = some (.type "list") := by decide +kernel
theorem bt_set : bootBuiltins "set" = some (.type "set") := by decide +kernel
theorem bt_range : bootBuiltins "range" = some (.type "range") := by decide +kernel
def iv (l : List Int) : List V := l.map V.int
def nv (l : List Nat) : List V := l.map fun (x : Nat) => V.int (x : Int)
theorem iv_length (l : List Int) : (iv l).length = l.length := List.length_map ..
theorem nv_length (l : List Nat) : (nv l).length = l.length := List.length_map ..
theorem iv_get {l : List Int} {i : Nat} {y : V} (h : (iv l)[i]? = some y) : ∃ z, l[i]? = some z ∧ y = .int z := by
  unfold iv at h
  rw [List.getElem?_map] at h
  cases e : l[i]? with
  | none => rw [e] at h; cases h
  | some z => rw [e] at h; exact ⟨z, rfl, (Option.some.inj h).symm⟩
theorem nv_get {l : List Nat} {i : Nat} {y : V} (h : (nv l)[i]? = some y) : ∃ z, l[i]? = some z ∧ y = .int (z : Int) := by
  unfold nv at h
  rw [List.getElem?_map] at h
  cases e : l[i]? with
  | none => rw [e] at h; cases h
  | some z => rw [e] at h; exact ⟨z, rfl, (Option.some.inj h).symm⟩
theorem nv_iv (l : List Nat) : nv l = iv (l.map fun (x : Nat) => (x : Int)) := by
  unfold nv iv
  rw [List.map_map]; rfl
theorem take_snoc {α : Type} {l : List α} {i : Nat} {x : α} (h : l[i]? = some x) : l.take (i + 1) = l.take i ++ [x] := by
  rw [List.take_add_one, h]; rfl
section
variable {P : Program} {w : World} {K : PySem.W.Frag} {mg : Str → Option Value} {base : Heap}
def spWithin : Sp := fun vs H Q _ => ∃ a lo hi : Int, vs = [.int a, .int lo, .int hi] ∧ Q (.bl (decide (lo ≤ a ∧ a ≤ hi))) H
theorem ok_is_within (F : Fn K mg "is_within" "is_within" s_is_within ["number", "low", "high"]) : Has P w K mg base 1 "is_within" ["number", "low", "high"] spWithin := by
  refine F.has (k := 0) sc_is_within (fun vs H Q E h => ?_) (fun f cdv A outer s H vs Q E hr h => ?_)
  · obtain ⟨a, lo, hi, rfl, _⟩ := h
    rfl
  · obtain ⟨a, lo, hi, rfl, q⟩ := h
    refine ⟨_, pss_one (ps_ret (pe_chain op_le op_le (pv 1) (pv 0) (pv 2))), ?_⟩
    refine ⟨_, rfl, _, rfl, _, _, rfl, rfl, _, rfl, ?_⟩
    refine ite2 (fun h1 => ?_) (fun h1 => ?_)
    · have h1 := of_decide_eq_true h1
      refine ⟨_, rfl, _, _, rfl, rfl, ?_⟩
      have e : decide (a ≤ hi) = decide (lo ≤ a ∧ a ≤ hi) := by simp [h1]
      show Q (.bl (decide (a ≤ hi))) H
      rw [e]; exact q
    · have h1 : ¬ lo ≤ a := fun z => h1 (decide_eq_true z)
      have e : decide (lo ≤ a ∧ a ≤ hi) = false := by simp [h1]
      rw [e] at q; exact q
def inR (lo hi : Int) (l : List Int) : Bool := l.all fun x => decide (lo ≤ x ∧ x ≤ hi)
def inL (sh lg lo hi : Int) (l : List Int) : Bool := decide (sh ≤ (l.length : Int) ∧ (l.length : Int) ≤ lg) && inR lo hi l
def spListWithin (K : PySem.W.Frag) : Sp := fun vs H Q _ => ∃ (m : Addr) (l : List Int) (sh lg lo hi : Int), vs = [.ref m, .int sh, .int lg, .int lo, .int hi] ∧ SqL K H m (iv l) ∧ Q (.bl (inL sh lg lo hi l)) H
def spAreWithin (K : PySem.W.Frag) : Sp := fun vs H Q _ => ∃ (m : Addr) (l : List Int) (lo hi : Int), vs = [.ref m, .int lo, .int hi] ∧ SqL K H m (iv l) ∧ Q (.bl (inR lo hi l)) H
theorem ok_are_within (F : Fn K mg "are_within" "are_within" s_are_within ["numbers", "low", "high"])
    (hW : Has P w K mg base 1 "is_within" ["number", "low", "high"] spWithin) :
    Has P w K mg base 2 "are_within" ["numbers", "low", "high"] (spAreWithin K) := by
  refine F.has (k := 1) sc_are_within (fun vs H Q E h => ?_) (fun f cdv A outer s H vs Q E hr h => ?_)
  · obtain ⟨m, l, lo, hi, rfl, _⟩ := h
    rfl
  · obtain ⟨m, l, lo, hi, rfl, hS, q⟩ := h
    refine ⟨_, pss_cons (ps_for PassesOwn.never rfl (pi_list (pv 0)) (pg_name (i := 3) sc_are_within.nd rfl (Or.inl rfl))
        (pss_one (ps_if (pt_not (pt_val (pe_fn hW hr rfl (pa_cons (pv 3) (pa_cons (pv 1) (pa_cons (pv 2) pa_nil)))))) (pss_one (ps_ret pe_bl)) pss_nil)))
      (pss_one (ps_ret pe_bl)), ?_⟩
    refine ⟨_, rfl, m, rfl, ⟨_, hS⟩, for_list (K := K) (a := m) (xs := iv l) (fun i σ H' => ∃ v : Option V, σ = [some (.ref m), some (.int lo), some (.int hi), v] ∧ H' = H ∧ inR lo hi (l.take i) = true)
      ⟨none, rfl, rfl, rfl⟩ (fun i σ H' _ ⟨_, _, e, _⟩ => by rw [e]; exact hS) ?_ ?_⟩
    · rintro i y σ H' hi' ⟨v, rfl, rfl, ha⟩
      obtain ⟨z, hz, rfl⟩ := iv_get hi'
      refine ⟨_, rfl, _, rfl, _, rfl, _, _, _, rfl, _, rfl, ?_⟩
      by_cases h2 : lo ≤ z ∧ z ≤ hi
      · rw [decide_eq_true h2]
        refine iteF ⟨_, rfl, rfl, ?_⟩
        unfold inR at ha ⊢
        rw [take_snoc hz, List.all_append, ha]
        simp [h2]
      · rw [decide_eq_false h2]
        refine iteT ?_
        have e : inR lo hi l = false := by
          unfold inR
          refine Bool.eq_false_iff.mpr fun z' => ?_
          exact h2 (of_decide_eq_true (List.all_eq_true.mp z' z (List.mem_of_getElem? hz)))
        rw [e] at q; exact q
    · rintro σ H' ⟨v, rfl, rfl, ha⟩
      rw [iv_length, List.take_length] at ha
      rw [ha] at q; exact q
theorem ok_is_list_within (F : Fn K mg "is_list_within" "is_list_within" s_is_list_within ["members", "shortest", "longest", "low", "high"])
    (hW : Has P w K mg base 1 "is_within" ["number", "low", "high"] spWithin) (hA : Has P w K mg base 2 "are_within" ["numbers", "low", "high"] (spAreWithin K)) (nLen : mg "len" = none) :
    Has P w K mg base 3 "is_list_within" ["members", "shortest", "longest", "low", "high"] (spListWithin K) := by
  refine F.has (k := 2) sc_is_list_within (fun vs H Q E h => ?_) (fun f cdv A outer s H vs Q E hr h => ?_)
  · obtain ⟨m, l, sh, lg, lo, hi, rfl, _⟩ := h
    rfl
  · obtain ⟨m, l, sh, lg, lo, hi, rfl, hS, q⟩ := h
    have hr1 : Room 1 _ := hr.mono (by decide)
    refine ⟨_, pss_one (ps_ret (pe_and (pe_fn hW hr1 rfl (pa_cons (pe_callB call_len_seq (by rfl) nLen PySem.boot_len (pa_cons (pv 0) pa_nil)) (pa_cons (pv 1) (pa_cons (pv 2) pa_nil))))
      (pe_one (pe_fn hA hr rfl (pa_cons (pv 0) (pa_cons (pv 3) (pa_cons (pv 4) pa_nil))))))), ?_⟩
    refine ⟨_, rfl, m, _, rfl, .inl hS, _, rfl, _, rfl, _, _, _, rfl, _, rfl, ?_⟩
    rw [iv_length]
    by_cases h1 : sh ≤ (l.length : Int) ∧ (l.length : Int) ≤ lg
    · rw [decide_eq_true h1]
      have e : inL sh lg lo hi l = inR lo hi l := by unfold inL; rw [decide_eq_true h1, Bool.true_and]
      rw [e] at q
      exact iteT ⟨_, rfl, _, rfl, _, rfl, m, l, lo, hi, rfl, hS, q⟩
    · rw [decide_eq_false h1]
      have e : inL sh lg lo hi l = false := by unfold inL; rw [decide_eq_false h1, Bool.false_and]
      rw [e] at q
      exact iteF q
def spPower : Sp := fun vs H Q _ => ∃ (b : Int) (e : Nat), vs = [.int b, .int (e : Int)] ∧ (-(2 ^ 64) < b ∧ b < 2 ^ 64) ∧ e ≤ 1000 ∧ Q (.int (b ^ e)) H
theorem ok_power (F : Fn K mg "power" "power" s_power ["base", "exponent"]) (nRange : mg "range" = none) : Has P w K mg base 1 "power" ["base", "exponent"] spPower := by
  refine F.has (k := 0) sc_power (fun vs H Q E h => ?_) (fun f cdv A outer s H vs Q E hr h => ?_)
  · obtain ⟨b, e, rfl, _⟩ := h
    rfl
  · obtain ⟨b, e, rfl, hb, he, q⟩ := h
    refine ⟨_, pss_cons (ps_set (i := 2) sc_power.nd rfl (Or.inl rfl) pe_int)
      (pss_cons (ps_for PassesOwn.never rfl (pi_range1 rfl nRange (pa_cons (pv 1) pa_nil)) (pg_name (i := 3) sc_power.nd rfl (Or.inl rfl))
        (pss_one (ps_aug (i := 2) sc_power.nd rfl (Or.inl rfl) (pv 0) iop_mul)))
      (pss_one (ps_ret (pv 2)))), ?_⟩
    refine ⟨_, rfl, _, rfl, by omega, by omega, ?_⟩
    rw [Int.toNat_natCast]
    refine for_range (n := e) (fun i σ H' => ∃ v : Option V, σ = [some (.int b), some (.int (e : Int)), some (.int (b ^ i)), v] ∧ H' = H) ⟨none, by rw [Int.pow_zero]; rfl, rfl⟩ ?_ ?_
    · rintro i σ H' hi ⟨v, rfl, rfl⟩
      refine ⟨_, rfl, _, rfl, _, _, rfl, rfl, .inr hb, ?_⟩
      refine ⟨some (.int (0 + i)), ?_, rfl⟩
      rw [Int.pow_succ]; rfl
    · rintro σ H' ⟨v, rfl, rfl⟩
      exact ⟨_, rfl, q⟩
end
end Gd
end
section
set_option Elab.async false
set_option maxRecDepth 100000
set_option maxHeartbeats 2000000
set_option linter.all false
namespace Gd
open PySem PySem.Spec PyProof.Rows L2
structure VL (H : Hp) (a : Addr) (as : List Addr) (xss : List (List V)) : Prop where
  at_ : H a = some (.lst (as.map V.ref))
  len : as.length = xss.length
  sub : ∀ (i : Nat) b xs, as[i]? = some b → xss[i]? = some xs → H b = some (.lst xs)
theorem VL.keep {H H' : Hp} {a : Addr} {as : List Addr} {xss : List (List V)} (h : VL H a as xss) (k : ∀ b o, H b = some o → b = a ∨ b ∈ as → H' b = some o) : VL H' a as xss :=
  ⟨k _ _ h.at_ (.inl rfl), h.len, fun i b xs e1 e2 => k _ _ (h.sub i b xs e1 e2) (.inr (List.mem_of_getElem? e1))⟩
theorem VL.same {H H' : Hp} {a : Addr} {as : List Addr} {xss : List (List V)} (h : VL H a as xss) (k : Same H H') : VL H' a as xss := h.keep fun b o e _ => k b o e
theorem VL.get {H : Hp} {a : Addr} {as : List Addr} {xss : List (List V)} (h : VL H a as xss) {i : Nat} {xs : List V} (e : xss[i]? = some xs) : ∃ b, as[i]? = some b ∧ H b = some (.lst xs) := by
  have hi : i < xss.length := (List.getElem?_eq_some_iff.mp e).1
  have hi' : i < as.length := by rw [h.len]; exact hi
  exact ⟨as[i], List.getElem?_eq_getElem hi', h.sub i _ xs (List.getElem?_eq_getElem hi') e⟩
theorem VL.ref {H : Hp} {a : Addr} {as : List Addr} {xss : List (List V)} (_ : VL H a as xss) {i : Nat} {b : Addr} (e : as[i]? = some b) : (as.map V.ref)[i]? = some (.ref b) := by
  rw [List.getElem?_map, e]; rfl
theorem VL.snoc {H H' : Hp} {a b : Addr} {as : List Addr} {xss : List (List V)} {xs : List V} (h : VL H a as xss) (ha : H' a = some (.lst (as.map V.ref ++ [.ref b]))) (hb : H' b = some (.lst xs))
    (k : ∀ c o, H c = some o → c ∈ as → H' c = some o) : VL H' a (as ++ [b]) (xss ++ [xs]) := by
  refine ⟨by rw [ha, List.map_append]; rfl, by rw [List.length_append, List.length_append, h.len]; rfl, fun i c ys e1 e2 => ?_⟩
  by_cases hi : i < as.length
  · rw [List.getElem?_append_left hi] at e1
    rw [List.getElem?_append_left (by rw [← h.len]; exact hi)] at e2
    exact k _ _ (h.sub i c ys e1 e2) (List.mem_of_getElem? e1)
  · rw [List.getElem?_append_right (by omega)] at e1
    rw [List.getElem?_append_right (by rw [← h.len]; omega), ← h.len] at e2
    cases e : i - as.length with
    | zero =>
      rw [e] at e1 e2
      cases e1; cases e2
      exact hb
    | succ j => rw [e] at e1; cases e1
theorem VL.mem {H : Hp} {a : Addr} {as : List Addr} {xss : List (List V)} (h : VL H a as xss) {b : Addr} (hb : b ∈ as) : ∃ xs ∈ xss, H b = some (.lst xs) := by
  obtain ⟨i, hi, rfl⟩ := List.mem_iff_getElem.mp hb
  have hi' : i < xss.length := by rw [← h.len]; exact hi
  exact ⟨xss[i], List.getElem_mem hi', h.sub i _ _ (List.getElem?_eq_getElem hi) (List.getElem?_eq_getElem hi')⟩
def NewRows (H H' : Hp) (q : Addr) (c : List (List Int)) : Prop := ∃ as, VL H' q as (c.map iv) ∧ H q = none ∧ ∀ b ∈ as, H b = none
def KTup (K : PySem.W.Frag) (t : Addr) (xs : List V) : Prop :=
  ∃ (o : Obj) (its : Array Value) (n : Nat), K.lookup t = some o ∧ o.cls = .type "tuple" ∧ o.data = .seq its n ∧ its.size ≤ sizeLine ∧ Vals xs its.toList
theorem KTup.sq {K : PySem.W.Frag} {t : Addr} {xs : List V} (h : KTup K t xs) (H : Hp) : SqT K H t xs := .inr h
section
variable {P : Program} {w : World} {K : PySem.W.Frag} {mg : Str → Option Value} {base : Heap}
def rf (a : Addr) (z : Int) : List (Str × V) := putF "place" (.int z) (putF "numbers" (.ref a) [])
theorem rf_place (a : Addr) (z : Int) : (rf a z).lookup ("place" : Str) = some (.int z) := by
  unfold rf; rw [lookup_putF, if_pos rfl]
theorem rf_numbers (a : Addr) (z : Int) : (rf a z).lookup ("numbers" : Str) = some (.ref a) := by
  unfold rf; rw [lookup_putF, if_neg (by decide +kernel), lookup_putF, if_pos rfl]
theorem rf_no (a : Addr) (z : Int) {m : Str} (h1 : ¬ m = "place") (h2 : ¬ m = "numbers") : (rf a z).lookup m = none := by
  unfold rf; rw [lookup_putF, if_neg h1, lookup_putF, if_neg h2]; rfl
theorem rf_eq (a : Addr) (z : Int) : rf a z = [(("numbers" : Str), .ref a), ("place", .int z)] := by
  show (if ("numbers" : Str) = "place" then [(("numbers" : Str), V.int z)] else [(("numbers" : Str), V.ref a), ("place", .int z)]) = _
  rw [if_neg (by decide +kernel)]
theorem rf_put (a : Addr) (z y : Int) : putF "place" (.int y) (rf a z) = rf a y := by
  rw [rf_eq, rf_eq]
  unfold putF
  rw [if_neg (by decide +kernel)]
  unfold putF
  rw [if_pos rfl]
theorem rf_len (a : Addr) (z : Int) : (rf a z).length < 1000 := by rw [rf_eq]; show 2 < 1000; decide
structure RCls (K : PySem.W.Frag) (C : Addr) : Prop where
  cl : Cls K C
  nN : NoAttr K C "numbers"
  nP : NoAttr K C "place"
def spRInit (C : Addr) : Sp := fun vs H Q _ => ∃ r dx a, vs = [.ref r, .ref a] ∧ H r = some (.ins C dx []) ∧ Q .non (upd H r (.ins C dx (rf a 0)))
theorem ok_Reader_init {C : Addr} (F : FnI K C "Reader.__init__" s_Reader___init__ ["self", "numbers"]) (T : RCls K C) : HasI P w K mg base 1 C ["self", "numbers"] (spRInit C) := by
  refine F.has (k := 0) sc_Reader___init__ (fun vs H Q E h => ?_) (fun f cdv A outer s H vs Q E hr h => ?_)
  · obtain ⟨r, dx, a, rfl, _⟩ := h
    rfl
  · obtain ⟨r, dx, a, rfl, h1, q⟩ := h
    refine ⟨_, pss_cons (ps_fld (pv 0) (pv 1) rfl) (pss_one (ps_fld (pv 0) pe_int rfl)), ?_⟩
    refine ⟨_, rfl, _, rfl, r, C, dx, _, rfl, h1, T.cl, T.nN, (by show 0 < 1000; decide), _, rfl, r, C, dx, _, rfl, upd_same, T.cl, T.nP, (by show 1 < 1000; decide), ?_⟩
    rw [upd_upd]; exact q
def spREnd (K : PySem.W.Frag) (C : Addr) : Sp := fun vs H Q _ => ∃ r dx a z xs, vs = [.ref r] ∧ H r = some (.ins C dx (rf a z)) ∧ SqL K H a xs ∧ Q (.bl (decide ((xs.length : Int) ≤ z))) H
theorem ok_Reader_end {C : Addr} (F : FnM K C "is_at_end" "Reader.is_at_end" s_Reader_is_at_end ["self"]) (T : RCls K C) (nLen : mg "len" = none) : HasM P w K mg base 1 C "is_at_end" ["self"] (spREnd K C) := by
  refine F.has (k := 0) sc_Reader_is_at_end (fun vs H Q E h => ?_) (fun f cdv A outer s H vs Q E hr h => ?_)
  · obtain ⟨r, dx, a, z, xs, rfl, _⟩ := h
    rfl
  · obtain ⟨r, dx, a, z, xs, rfl, h1, hS, q⟩ := h
    refine ⟨_, pss_one (ps_ret (pe_cmpR op_ge (pe_fld (pv 0) rfl) (pe_callB call_len_seq (by rfl) nLen PySem.boot_len (pa_cons (pe_fld (pv 0) rfl) pa_nil)) (nomark _))), ?_⟩
    exact ⟨_, rfl, r, C, dx, _, _, rfl, h1, T.cl, T.nP, rf_place _ _, _, rfl, r, C, dx, _, _, rfl, h1, T.cl, T.nN, rf_numbers _ _, a, xs, rfl, .inl hS, _, _, rfl, rfl, q⟩
theorem cut_iv (l : List Int) {z m : Nat} (h : z + m ≤ l.length) : cutV (iv l) (some (z : Int)) (some ((z : Int) + (m : Int))) = iv ((l.drop z).take m) := by
  have e : ((z : Int) + (m : Int)) = ((z + m : Nat) : Int) := by omega
  unfold cutV
  rw [e, HT.sIx_nat, HT.sIx_nat, iv_length]
  have e1 : min z l.length = z := by omega
  have e2 : min (z + m) l.length - z = m := by omega
  rw [e1, e2]
  unfold iv
  rw [← List.map_drop, ← List.map_take]
def spRTake (K : PySem.W.Frag) (C : Addr) : Sp := fun vs H Q _ => ∃ r dx a, ∃ (z m : Nat) (l : List Int), vs = [.ref r, .int (m : Int)] ∧ H r = some (.ins C dx (rf a (z : Int))) ∧ SqL K H a (iv l) ∧ z + m ≤ l.length ∧
  ∀ q, H q = none → Q (.ref q) (upd (upd H q (.lst (iv ((l.drop z).take m)))) r (.ins C dx (rf a ((z + m : Nat) : Int))))
theorem ok_Reader_take {C : Addr} (F : FnM K C "take" "Reader.take" s_Reader_take ["self", "amount"]) (T : RCls K C) (nLen : mg "len" = none) : HasM P w K mg base 1 C "take" ["self", "amount"] (spRTake K C) := by
  refine F.has (k := 0) sc_Reader_take (fun vs H Q E h => ?_) (fun f cdv A outer s H vs Q E hr h => ?_)
  · obtain ⟨r, dx, a, z, m, l, rfl, _⟩ := h
    rfl
  · obtain ⟨r, dx, a, z, m, l, rfl, h1, hS, hl, k⟩ := h
    refine ⟨_, pss_cons (ps_set (i := 2) sc_Reader_take.nd rfl (Or.inl rfl) (pe_slice sl_list (pe_fld (pv 0) rfl) (po_some (pe_fld (pv 0) rfl)) (po_some (pe_op op_add (pe_fld (pv 0) rfl) (pv 1)))))
      (pss_cons (ps_fldaug (pv 0) (pe_callB call_len_seq (by rfl) nLen PySem.boot_len (pa_cons (pv 2) pa_nil)) in_add)
      (pss_one (ps_ret (pv 2)))), ?_⟩
    refine ⟨_, rfl, r, C, dx, _, _, rfl, h1, T.cl, T.nN, rf_numbers _ _, _, rfl, r, C, dx, _, _, rfl, h1, T.cl, T.nP, rf_place _ _, _, rfl, _, rfl, r, C, dx, _, _, rfl, h1, T.cl, T.nP, rf_place _ _, _, rfl, _, _, rfl, rfl, _, rfl, a, _, rfl, hS, fun q hq => ?_⟩
    rw [cut_iv l hl]
    have h2 : upd H q (.lst (iv ((l.drop z).take m))) r = some (.ins C dx (rf a (z : Int))) := by rw [upd_ne (ne_of_none h1 hq)]; exact h1
    refine ⟨_, rfl, r, C, dx, _, _, rfl, h2, T.cl, T.nP, rf_place _ _, _, rfl, q, _, rfl, .inl (SqL.of upd_same), _, _, rfl, rfl, dx, _, h2, rf_len _ _, _, rfl, ?_⟩
    have e : ((z : Int) + ((iv ((l.drop z).take m)).length : Int)) = ((z + m : Nat) : Int) := by
      rw [iv_length, List.length_take, List.length_drop]; omega
    rw [rf_put, e]
    exact k q hq
structure Shapes (K : PySem.W.Frag) (mg : Str → Option Value) : Prop where
  ex : ∃ a es, mg "SHAPES" = some (.ref a) ∧ KD K a es ∧ ∀ p n k, PyVbecaj.shape p = some (n, k) → ∃ t, kAt es p = some (.ref t) ∧ KTup K t [.int (n : Int), .int (k : Int)]
def spShape (K : PySem.W.Frag) : Sp := fun vs H Q _ => ∃ (p : Int) (n k : Nat), vs = [.int p] ∧ PyVbecaj.shape p = some (n, k) ∧ ∀ H' t, Same H H' → SqT K H' t [.int (n : Int), .int (k : Int)] → Q (.ref t) H'
theorem ok_shape_of (F : Fn K mg "shape_of" "shape_of" s_shape_of ["number"]) (S : Shapes K mg) : Has P w K mg base 1 "shape_of" ["number"] (spShape K) := by
  refine F.has (k := 0) sc_shape_of (fun vs H Q E h => ?_) (fun f cdv A outer s H vs Q E hr h => ?_)
  · obtain ⟨p, n, k, rfl, _⟩ := h
    rfl
  · obtain ⟨p, n, k, rfl, hs, q⟩ := h
    obtain ⟨a, es, hm, hd, hk⟩ := S.ex
    obtain ⟨t, ht, hT⟩ := hk p n k hs
    refine ⟨_, pss_one (ps_ret (pe_kget2 (pe_obj hm rfl) (pv 0) (pe_tup (pa_cons pe_int (pa_cons pe_int pa_nil))) ⟨rfl, rfl, rfl, rfl⟩)), ?_⟩
    refine ⟨a, es, rfl, hd, _, rfl, (by show 2 ≤ sizeLine; decide), fun x hx => ⟨p, .ref t, rfl, fun r _ => ?_, ?_⟩⟩
    · rw [ht]; exact rfl
    · exact q _ t (fun b o e => by rw [upd_ne (ne_of_none e hx)]; exact e) (hT.sq _)
def spRead (K : PySem.W.Frag) (C : Addr) : Sp := fun vs H Q _ => ∃ r dx a, ∃ (z : Nat) (l : List Int) (c : List (List Int)) (rest : List Int), vs = [.ref r] ∧ H r = some (.ins C dx (rf a (z : Int))) ∧ SqL K H a (iv l) ∧ l.length ≤ 16000 ∧ l.drop z = PyFlat.put1 c ++ rest ∧ PyFlat.okCall PyVbecaj.shape c ∧
  ∀ H' q, NewRows H H' q c → H' r = some (.ins C dx (rf a ((z + (PyFlat.put1 c).length : Nat) : Int))) → (∀ b o, H b = some o → b ≠ r → H' b = some o) → Q (.ref q) H'
theorem SqL_keep {H H' : Hp} {a r C dx : Addr} {fs : List (Str × V)} {xs : List V} (h : SqL K H a xs) (hr : H r = some (.ins C dx fs)) (k : ∀ b o, H b = some o → b ≠ r → H' b = some o) : SqL K H' a xs := by
  rcases h with (h | ⟨o, h⟩) | h
  · exact .inl (.inl (k _ _ h (ne_of h hr (by intro z; cases z))))
  · exact .inl (.inr ⟨o, k _ _ h (ne_of h hr (by intro z; cases z))⟩)
  · exact .inr h
theorem putRows_append (a b : List (List Int)) : PyFlat.putRows (a ++ b) = PyFlat.putRows a ++ PyFlat.putRows b := by
  induction a with
  | nil => rfl
  | cons x a ih =>
    show PyFlat.putRow x ++ PyFlat.putRows (a ++ b) = PyFlat.putRow x ++ PyFlat.putRows a ++ PyFlat.putRows b
    rw [ih, List.append_assoc]
theorem drop_at {l u v : List Int} {z : Nat} (h : l.drop z = u ++ v) : l.drop (z + u.length) = v := by
  rw [← List.drop_drop, h, List.drop_left]
theorem len_at {l u v : List Int} {z : Nat} (h : l.drop z = u ++ v) (hz : z ≤ l.length) : z + u.length ≤ l.length := by
  have e := congrArg List.length h
  rw [List.length_drop, List.length_append] at e
  omega
theorem take_at {l u v : List Int} {z : Nat} (h : l.drop z = u ++ v) : (l.drop z).take u.length = u := by
  rw [h, List.take_left]
theorem le_at {l u v : List Int} {z : Nat} (h : l.drop z = u ++ v) (hu : u ≠ []) : z ≤ l.length := by
  refine Nat.le_of_not_lt fun hz => ?_
  rw [List.drop_eq_nil_of_le (by omega)] at h
  exact hu (List.append_eq_nil_iff.mp h.symm).1
theorem ok_read_call {C : Addr} (F : Fn K mg "read_call" "read_call" s_read_call ["reader"]) (T : RCls K C) (hT : HasM P w K mg base 1 C "take" ["self", "amount"] (spRTake K C))
    (hS : Has P w K mg base 1 "shape_of" ["number"] (spShape K)) (nRange : mg "range" = none) : Has P w K mg base 2 "read_call" ["reader"] (spRead K C) := by
  refine F.has (k := 1) sc_read_call (fun vs H Q E h => ?_) (fun f cdv A outer s H vs Q E hr h => ?_)
  · obtain ⟨r, dx, a, z, l, c, rest, rfl, _⟩ := h
    rfl
  · obtain ⟨r, dx, a, z, l, c, rest, rfl, h1, hL, hll, hd, ⟨p, a0, xs, rfl, hsh⟩, k⟩ := h
    have hd0 : l.drop z = [p] ++ (a0 ++ (PyFlat.putRows xs ++ rest)) := by
      rw [hd]
      show (p :: a0) ++ PyFlat.putRows xs ++ rest = _
      simp
    have hz := le_at hd0 (by simp)
    have hd1 : l.drop (z + 1) = a0 ++ (PyFlat.putRows xs ++ rest) := drop_at hd0
    have hd2 : l.drop (z + 1 + a0.length) = PyFlat.putRows xs ++ rest := drop_at hd1
    have hl1 := len_at hd0 hz
    have hl2 := len_at hd1 hl1
    refine ⟨_, pss_cons (ps_set (i := 1) sc_read_call.nd rfl (Or.inl rfl) (pe_mt hT (pv 0) T.cl hr (pa_cons pe_int pa_nil)))
      (pss_cons (ps_set (i := 2) sc_read_call.nd rfl (Or.inl rfl) (pe_fn hS hr rfl (pa_cons (pe_ix ix_list (pv 1) pe_int (fun _ _ => rfl)) pa_nil)))
      (pss_cons (ps_set (i := 3) sc_read_call.nd rfl (Or.inl rfl) (pe_lst (pa_cons (pe_op op_cat (pv 1) (pe_mt hT (pv 0) T.cl hr (pa_cons (pe_ix ix_tup (pv 2) pe_int (fun _ _ => rfl)) pa_nil))) pa_nil)))
      (pss_cons (ps_for PassesOwn.never rfl (pi_range1 rfl nRange (pa_cons (pe_ix ix_tup (pv 2) pe_int (fun _ _ => rfl)) pa_nil)) (pg_name (i := 4) sc_read_call.nd rfl (Or.inl rfl))
        (pss_cons (ps_set (i := 5) sc_read_call.nd rfl (Or.inl rfl) (pe_ix ix_list (pe_mt hT (pv 0) T.cl hr (pa_cons pe_int pa_nil)) pe_int (fun _ _ => rfl)))
        (pss_one (ps_expr (pe_bm PySem.F.plainAttrs_list PySem.F.slot_list_append PySem.F.type_list_append mt_append (pv 3) (pa_cons (pe_mt hT (pv 0) T.cl hr (pa_cons (pv 5) pa_nil)) pa_nil))))))
      (pss_one (ps_ret (pv 3)))))), ?_⟩
    have nt : ∀ y : Int, (rf a y).lookup ("take" : Str) = none := fun y => rf_no a y (by decide +kernel) (by decide +kernel)
    -- head = reader.take(1)
    refine ⟨_, rfl, r, dx, _, rfl, h1, nt _, r, dx, a, z, 1, l, rfl, h1, hL, hl1, fun q1 n1 => ?_⟩
    have e1 : (l.drop z).take 1 = [p] := take_at hd0
    rw [e1]
    generalize hH1 : upd (upd H q1 (.lst (iv [p]))) r (.ins C dx (rf a ((z + 1 : Nat) : Int))) = H1
    have nq1 : q1 ≠ r := (ne_of_none h1 n1).symm
    have r1 : H1 r = some (.ins C dx (rf a ((z + 1 : Nat) : Int))) := by rw [← hH1]; exact upd_same
    have g1 : H1 q1 = some (.lst (iv [p])) := by rw [← hH1, upd_ne nq1]; exact upd_same
    have k1 : ∀ b o, H b = some o → b ≠ r → H1 b = some o := fun b o e hb => by rw [← hH1, upd_ne hb, upd_ne (ne_of_none e n1)]; exact e
    clear hH1
    -- shape = shape_of(head[0])
    refine ⟨_, rfl, q1, _, _, _, rfl, rfl, SqL.of g1, atI_nat (j := 0) rfl, p, _, _, rfl, hsh, fun H2 t s2 hT2 => ?_⟩
    have r2 := s2 _ _ r1
    have hL2 : SqL K H2 a (iv l) := s2.seq (SqL_keep hL h1 k1)
    -- rows = [head + reader.take(shape[0])]
    refine ⟨_, rfl, _, rfl, r, dx, _, rfl, r2, nt _, _, rfl, t, _, _, _, rfl, rfl, hT2, atI_nat (j := 0) rfl, r, dx, a, z + 1, a0.length, l, rfl, r2, hL2, hl2, fun q2 n2 => ?_⟩
    have e2 : (l.drop (z + 1)).take a0.length = a0 := take_at hd1
    rw [e2]
    generalize hH3 : upd (upd H2 q2 (.lst (iv a0))) r (.ins C dx (rf a ((z + 1 + a0.length : Nat) : Int))) = H3
    have nq2 : q2 ≠ r := (ne_of_none r2 n2).symm
    have r3 : H3 r = some (.ins C dx (rf a ((z + 1 + a0.length : Nat) : Int))) := by rw [← hH3]; exact upd_same
    have g2 : H3 q2 = some (.lst (iv a0)) := by rw [← hH3, upd_ne nq2]; exact upd_same
    have k3 : ∀ b o, H2 b = some o → b ≠ r → H3 b = some o := fun b o e hb => by rw [← hH3, upd_ne hb, upd_ne (ne_of_none e n2)]; exact e
    clear hH3
    have g1' : H3 q1 = some (.lst (iv [p])) := k3 _ _ (s2 _ _ g1) nq1
    have la : a0.length ≤ 16000 := by omega
    have hsl : sizeLine = 16777216 := sizeLine_eq
    refine ⟨q1, q2, _, _, rfl, rfl, g1', g2, (by rw [iv_length, iv_length, List.length_singleton]; omega), fun q3 n3 => ⟨(by show 1 ≤ sizeLine; omega), fun q n4 => ?_⟩⟩
    generalize hH5 : upd (upd H3 q3 (.lst (iv [p] ++ iv a0))) q (.lst [V.ref q3]) = H5
    have nq3 : q3 ≠ q := ne_of_none (H := upd H3 q3 (.lst (iv [p] ++ iv a0))) upd_same n4
    have n4' : H3 q = none := by
      cases e : H3 q with
      | none => rfl
      | some o => rw [upd_ne (ne_of_none e n3), e] at n4; cases n4
    have kk : ∀ b o, H b = some o → b ≠ r → H3 b = some o := fun b o e hb => k3 b o (s2 _ _ (k1 b o e hb)) hb
    have fr : ∀ b, H3 b = none → H b = none := fun b hb => by
      cases e : H b with
      | none => rfl
      | some o =>
        by_cases hbr : b = r
        · subst hbr; rw [r3] at hb; cases hb
        · rw [kk b o e hbr] at hb; cases hb
    have k5 : ∀ b o, H3 b = some o → H5 b = some o := fun b o e => by rw [← hH5, upd_ne (ne_of_none e n4'), upd_ne (ne_of_none e n3)]; exact e
    have r5 := k5 _ _ r3
    have g5 : H5 q = some (.lst [V.ref q3]) := by rw [← hH5]; exact upd_same
    have g53 : H5 q3 = some (.lst (iv (p :: a0))) := by rw [← hH5, upd_ne nq3]; exact upd_same
    clear hH5
    have hT5 : SqT K H5 t [.int (a0.length : Int), .int (xs.length : Int)] := by
      rcases hT2 with (h | ⟨o, h⟩) | h
      · exact .inl (.inl (k5 _ _ (k3 _ _ h (ne_of h r2 (by intro z; cases z)))))
      · exact .inl (.inr ⟨o, k5 _ _ (k3 _ _ h (ne_of h r2 (by intro z; cases z)))⟩)
      · exact .inr h
    have hk2 : xs.length ≤ 16000 := by
      rcases shape_cases hsh with h | h | h | h | h | h | h | h | h | h | h | h | h | h | h | h | h <;> omega
    have fq : H q = none := fr q n4'
    have fq3 : H q3 = none := fr q3 n3
    refine ⟨_, rfl, t, _, _, _, rfl, rfl, hT5, atI_nat (j := 1) rfl, _, rfl, by omega, by omega, ?_⟩
    rw [Int.toNat_natCast]
    refine for_range (n := xs.length) (fun i σ H' => ∃ (v4 v5 : Option V) (as : List Addr), σ = [some (.ref r), some (.ref q1), some (.ref t), some (.ref q), v4, v5] ∧ VL H' q as (((p :: a0) :: xs.take i).map iv) ∧ (∀ b ∈ as, H b = none) ∧
        H' r = some (.ins C dx (rf a ((z + 1 + a0.length + (PyFlat.putRows (xs.take i)).length : Nat) : Int))) ∧ ∀ b o, H b = some o → b ≠ r → H' b = some o)
      ⟨none, none, [q3], rfl, ⟨g5, rfl, fun i b ys e1 e2 => ?_⟩, fun b hb => (by rw [List.mem_singleton.mp hb]; exact fq3), r5, fun b o e hb => k5 b o (kk b o e hb)⟩ ?_ ?_
    · cases i with
      | zero => cases e1; cases e2; exact g53
      | succ i => cases e1
    · rintro i σ H' hi ⟨v4, v5, as, rfl, hV, hA, hr', hk'⟩
      have ex : xs[i]? = some xs[i] := List.getElem?_eq_getElem hi
      generalize xs[i] = x at ex
      have exs : xs = xs.take i ++ x :: xs.drop (i + 1) := by
        conv => lhs; rw [← List.take_append_drop (i + 1) xs, take_snoc ex]
        simp
      generalize hzi : z + 1 + a0.length + (PyFlat.putRows (xs.take i)).length = zi at hr'
      have hdi : l.drop zi = [(x.length : Int)] ++ (x ++ (PyFlat.putRows (xs.drop (i + 1)) ++ rest)) := by
        have e : l.drop (z + 1 + a0.length) = PyFlat.putRows (xs.take i) ++ ([(x.length : Int)] ++ (x ++ (PyFlat.putRows (xs.drop (i + 1)) ++ rest))) := by
          rw [hd2]
          conv => lhs; rw [exs, putRows_append]
          show PyFlat.putRows (xs.take i) ++ (((x.length : Int) :: x) ++ PyFlat.putRows (xs.drop (i + 1))) ++ rest = _
          simp
        rw [← hzi]
        exact drop_at e
      have hzl := le_at hdi (by simp)
      have hd1' : l.drop (zi + 1) = x ++ (PyFlat.putRows (xs.drop (i + 1)) ++ rest) := drop_at hdi
      have hli := len_at hdi hzl
      have hli2 := len_at hd1' hli
      have hL' : SqL K H' a (iv l) := SqL_keep hL h1 hk'
      -- amount = reader.take(1)[0]
      refine ⟨_, rfl, r, dx, _, rfl, hr', nt _, r, dx, a, zi, 1, l, rfl, hr', hL', hli, fun u1 m1 => ?_⟩
      have e3 : (l.drop zi).take 1 = [(x.length : Int)] := take_at hdi
      rw [e3]
      generalize hG1 : upd (upd H' u1 (.lst (iv [(x.length : Int)]))) r (.ins C dx (rf a ((zi + 1 : Nat) : Int))) = G1
      have nu1 : u1 ≠ r := (ne_of_none hr' m1).symm
      have gr1 : G1 r = some (.ins C dx (rf a ((zi + 1 : Nat) : Int))) := by rw [← hG1]; exact upd_same
      have gu1 : G1 u1 = some (.lst (iv [(x.length : Int)])) := by rw [← hG1, upd_ne nu1]; exact upd_same
      have gk1 : ∀ b o, H' b = some o → b ≠ r → G1 b = some o := fun b o e hb => by rw [← hG1, upd_ne hb, upd_ne (ne_of_none e m1)]; exact e
      clear hG1
      refine ⟨u1, _, _, _, rfl, rfl, SqL.of gu1, atI_nat (j := 0) rfl, ?_⟩
      -- rows.append(reader.take(amount))
      have nqr : q ≠ r := ne_of hV.at_ hr' (by intro z; cases z)
      have gq : G1 q = some (.lst (as.map V.ref)) := gk1 _ _ hV.at_ nqr
      have gL : SqL K G1 a (iv l) := SqL_keep hL' hr' gk1
      refine ⟨_, rfl, .inl ⟨rfl, _, SqL.of gq⟩, _, rfl, r, dx, _, rfl, gr1, nt _, _, rfl, r, dx, a, zi + 1, x.length, l, rfl, gr1, gL, hli2, fun u2 m2 => ?_⟩
      have e4 : (l.drop (zi + 1)).take x.length = x := take_at hd1'
      rw [e4]
      generalize hG2 : upd (upd G1 u2 (.lst (iv x))) r (.ins C dx (rf a ((zi + 1 + x.length : Nat) : Int))) = G2
      have nu2 : u2 ≠ r := (ne_of_none gr1 m2).symm
      have gr2 : G2 r = some (.ins C dx (rf a ((zi + 1 + x.length : Nat) : Int))) := by rw [← hG2]; exact upd_same
      have gu2 : G2 u2 = some (.lst (iv x)) := by rw [← hG2, upd_ne nu2]; exact upd_same
      have gk2 : ∀ b o, G1 b = some o → b ≠ r → G2 b = some o := fun b o e hb => by rw [← hG2, upd_ne hb, upd_ne (ne_of_none e m2)]; exact e
      clear hG2
      have gq2 : G2 q = some (.lst (as.map V.ref)) := gk2 _ _ gq nqr
      have hal : as.length = i + 1 := by
        rw [hV.len, List.length_map, List.length_cons, List.length_take]; omega
      refine ⟨q, _, _, rfl, rfl, gq2, (by rw [List.length_map]; omega), ?_⟩
      have nqu2 : u2 ≠ q := (ne_of_none gq m2).symm
      have fu2 : H u2 = none := by
        cases e : H u2 with
        | none => rfl
        | some o =>
          rw [gk1 _ _ (hk' _ _ e nu2) nu2] at m2; cases m2
      have hasr : ∀ b ∈ as, b ≠ r := fun b hb e => by
        rw [e] at hb; rw [hA r hb] at h1; cases h1
      have hasq : ∀ b ∈ as, b ≠ q := fun b hb e => by
        obtain ⟨ys, hy, hh⟩ := hV.mem hb
        rw [e, hV.at_] at hh
        have hh := HO.lst.inj (Option.some.inj hh)
        obtain ⟨y, hy', rfl⟩ := List.mem_map.mp hy
        cases as with
        | nil => cases hb
        | cons b0 as =>
          cases y with
          | nil => cases hh
          | cons y0 y => cases hh
      refine ⟨_, _, as ++ [u2], rfl, ?_, ?_, ?_, ?_⟩
      · rw [take_snoc ex, ← List.cons_append, List.map_append]
        refine hV.snoc upd_same (by rw [upd_ne nqu2]; exact gu2) fun c o e hc => ?_
        rw [upd_ne (hasq c hc)]
        exact gk2 _ _ (gk1 _ _ e (hasr c hc)) (hasr c hc)
      · intro b hb
        rcases List.mem_append.mp hb with hb | hb
        · exact hA b hb
        · rw [List.mem_singleton.mp hb]; exact fu2
      · rw [upd_ne (Ne.symm nqr), gr2, take_snoc ex, putRows_append, List.length_append, ← hzi]
        show _ = some (HO.ins C dx (rf a ((z + 1 + a0.length + ((PyFlat.putRows (xs.take i)).length + (PyFlat.putRow x ++ []).length) : Nat) : Int)))
        rw [List.append_nil]
        show _ = some (HO.ins C dx (rf a ((z + 1 + a0.length + ((PyFlat.putRows (xs.take i)).length + (x.length + 1)) : Nat) : Int)))
        congr 4
        omega
      · intro b o e hb
        rw [upd_ne (ne_of_none e fq)]
        exact gk2 _ _ (gk1 _ _ (hk' _ _ e hb) hb) hb
    · rintro σ H' ⟨v4, v5, as, rfl, hV, hA, hr', hk'⟩
      rw [List.take_length] at hV hr'
      refine ⟨_, rfl, k H' q ⟨as, hV, fq, hA⟩ ?_ hk'⟩
      rw [hr']
      have e : z + (PyFlat.put1 ((p :: a0) :: xs)).length = z + 1 + a0.length + (PyFlat.putRows xs).length := by
        show z + ((p :: a0) ++ PyFlat.putRows xs).length = _
        rw [List.length_append, List.length_cons]; omega
      rw [e]
end
end Gd
end
section
set_option Elab.async false
set_option maxRecDepth 100000
set_option maxHeartbeats 2000000
set_option linter.all false
namespace Gd
open PySem PySem.Spec PyProof.Rows L2
theorem NewRows.old {H0 H H' : Hp} {q : Addr} {c : List (List Int)} (h : NewRows H H' q c) (k : ∀ b, H b = none → H0 b = none) : NewRows H0 H' q c := by
  obtain ⟨as, hV, n, hn⟩ := h
  exact ⟨as, hV, k _ n, fun b hb => k _ (hn b hb)⟩
theorem NewRows.keep {H H' H2 : Hp} {q : Addr} {c : List (List Int)} (h : NewRows H H' q c) (k : ∀ b o, H' b = some o → H b = none → H2 b = some o) : NewRows H H2 q c := by
  obtain ⟨as, hV, n, hn⟩ := h
  exact ⟨as, hV.keep fun b o e hb => k b o e (by rcases hb with rfl | hb; exact n; exact hn b hb), n, hn⟩
def NewCalls (H H' : Hp) (q : Addr) (cs : List (List (List Int))) : Prop :=
  ∃ as : List Addr, H' q = some (.lst (as.map V.ref)) ∧ as.length = cs.length ∧ H q = none ∧ ∀ (i : Nat) a c, as[i]? = some a → cs[i]? = some c → NewRows H H' a c
section
variable {P : Program} {w : World} {K : PySem.W.Frag} {mg : Str → Option Value} {base : Heap}
theorem SqL_at {H H' : Hp} {a : Addr} {xs : List V} (h : SqL K H a xs) (k : ∀ o, H a = some o → H' a = some o) : SqL K H' a xs := by
  rcases h with (h | ⟨o, h⟩) | h
  · exact .inl (.inl (k _ h))
  · exact .inl (.inr ⟨o, k _ h⟩)
  · exact .inr h
theorem put_append (a b : List (List (List Int))) : PyFlat.put (a ++ b) = PyFlat.put a ++ PyFlat.put b := by
  induction a with
  | nil => rfl
  | cons x a ih =>
    show PyFlat.put1 x ++ PyFlat.put (a ++ b) = PyFlat.put1 x ++ PyFlat.put a ++ PyFlat.put b
    rw [ih, List.append_assoc]
theorem put1_pos {c : List (List Int)} (h : PyFlat.okCall PyVbecaj.shape c) : 1 ≤ (PyFlat.put1 c).length := by
  obtain ⟨p, a, xs, rfl, _⟩ := h
  show 1 ≤ ((p :: a) ++ PyFlat.putRows xs).length
  rw [List.length_append, List.length_cons]; omega
theorem put_length_le : ∀ {cs : List (List (List Int))}, (∀ c ∈ cs, PyFlat.okCall PyVbecaj.shape c) → cs.length ≤ (PyFlat.put cs).length
  | [], _ => Nat.le_refl _
  | c :: cs, h => by
    have h1 := put1_pos (h c (List.mem_cons_self ..))
    have h2 := put_length_le (cs := cs) fun d hd => h d (List.mem_cons_of_mem _ hd)
    show cs.length + 1 ≤ (PyFlat.put1 c ++ PyFlat.put cs).length
    rw [List.length_append]; omega
def spReadAll (K : PySem.W.Frag) : Sp := fun vs H Q _ => ∃ a, ∃ (l : List Int) (cs : List (List (List Int))), vs = [.ref a] ∧ SqL K H a (iv l) ∧ l.length ≤ 16000 ∧ l = PyFlat.put cs ∧ (∀ c ∈ cs, PyFlat.okCall PyVbecaj.shape c) ∧
  ∀ H' q, Same H H' → NewCalls H H' q cs → Q (.ref q) H'
theorem ok_read_calls {C : Addr} (F : Fn K mg "read_calls" "read_calls" s_read_calls ["numbers"]) (T : RCls K C) (mR : mg "Reader" = some (.ref C)) (hI : HasI P w K mg base 1 C ["self", "numbers"] (spRInit C))
    (hE : HasM P w K mg base 1 C "is_at_end" ["self"] (spREnd K C)) (hRC : Has P w K mg base 2 "read_call" ["reader"] (spRead K C)) : Has P w K mg base 3 "read_calls" ["numbers"] (spReadAll K) := by
  refine F.has (k := 2) sc_read_calls (fun vs H Q E h => ?_) (fun f cdv A outer s H vs Q E hr h => ?_)
  · obtain ⟨a, l, cs, rfl, _⟩ := h
    rfl
  · obtain ⟨a, l, cs, rfl, hL, hll, hput, hok, k⟩ := h
    have hr1 : Room 1 _ := hr.mono (by decide)
    refine ⟨_, pss_cons (ps_set (i := 1) sc_read_calls.nd rfl (Or.inl rfl) (pe_mk hI hr rfl mR (pa_cons (pv 0) pa_nil)))
      (pss_cons (ps_set (i := 2) sc_read_calls.nd rfl (Or.inl rfl) (pe_lst pa_nil))
      (pss_cons (ps_while PassesOwn.never (pt_not (pt_val (pe_mt0 hE (pv 1) T.cl hr1)))
        (pss_one (ps_expr (pe_bm PySem.F.plainAttrs_list PySem.F.slot_list_append PySem.F.type_list_append mt_append (pv 2) (pa_cons (pe_fn hRC hr rfl (pa_cons (pv 1) pa_nil)) pa_nil)))))
      (pss_one (ps_ret (pv 2))))), ?_⟩
    refine ⟨_, rfl, fun r dx n1 n2 n3 => ⟨r, dx, a, rfl, upd_same, rfl, Nat.zero_le _, fun q n4 => ?_⟩⟩
    generalize hG : upd (upd (upd H dx (.own r)) r (.ins C dx [])) r (.ins C dx (rf a 0)) = G at n4
    have sG : Same H G := fun b o e => by rw [← hG, upd_ne (ne_of_none e n1), upd_ne (ne_of_none e n1), upd_ne (ne_of_none e n2)]; exact e
    have rG : G r = some (.ins C dx (rf a 0)) := by rw [← hG]; exact upd_same
    clear hG
    generalize hH0 : upd G q (.lst []) = H0
    have s0 : Same G H0 := fun b o e => by rw [← hH0, upd_ne (ne_of_none e n4)]; exact e
    have q0 : H0 q = some (.lst []) := by rw [← hH0]; exact upd_same
    have r0 : H0 r = some (.ins C dx (rf a 0)) := s0 _ _ rG
    clear hH0
    have nrq : r ≠ q := ne_of r0 q0 (by intro z; cases z)
    have S0 : Same H H0 := sG.trans s0
    have fq : H q = none := sG.free n4
    have hsl : sizeLine = 16777216 := sizeLine_eq
    have hcl : cs.length ≤ 16000 := by
      have := put_length_le hok
      rw [← hput] at this; omega
    have ne : ∀ y : Int, (rf a y).lookup ("is_at_end" : Str) = none := fun y => rf_no a y (by decide +kernel) (by decide +kernel)
    refine ⟨fun m σ H' => ∃ (i : Nat) (as : List Addr), i ≤ cs.length ∧ m = cs.length - i ∧ σ = [some (.ref a), some (.ref r), some (.ref q)] ∧ H' r = some (.ins C dx (rf a (((PyFlat.put (cs.take i)).length : Nat) : Int))) ∧
        H' q = some (.lst (as.map V.ref)) ∧ as.length = i ∧ (∀ b o, H0 b = some o → b ≠ r → b ≠ q → H' b = some o) ∧ ∀ (j : Nat) b c, as[j]? = some b → cs[j]? = some c → NewRows H0 H' b c,
      ⟨_, 0, [], Nat.zero_le _, rfl, rfl, r0, q0, rfl, fun b o e _ _ => e, fun j b c e => by cases e⟩, ?_⟩
    rintro m σ H' ⟨i, as, hi, rfl, rfl, hr', hq', hal, hk, hN⟩
    have hL' : SqL K H' a (iv l) := SqL_at hL fun o e => hk _ _ (S0 _ _ e) (ne_of_none e n1) (ne_of_none e fq)
    have fr0 : ∀ b, H' b = none → H0 b = none := fun b hb => by
      cases e : H0 b with
      | none => rfl
      | some o =>
        by_cases h1 : b = r
        · subst h1; rw [hr'] at hb; cases hb
        · by_cases h2 : b = q
          · subst h2; rw [hq'] at hb; cases hb
          · rw [hk b o e h1 h2] at hb; cases hb
    refine ⟨_, rfl, r, dx, _, rfl, hr', ne _, r, dx, a, _, _, rfl, hr', hL', _, rfl, ?_⟩
    rw [iv_length]
    by_cases hlt : i < cs.length
    · have ec : cs[i]? = some cs[i] := List.getElem?_eq_getElem hlt
      have hc := hok _ (List.getElem_mem hlt)
      generalize cs[i] = c at ec hc
      have hd : l = PyFlat.put (cs.take i) ++ (PyFlat.put1 c ++ PyFlat.put (cs.drop (i + 1))) := by
        have e : cs = cs.take i ++ c :: cs.drop (i + 1) := by
          conv => lhs; rw [← List.take_append_drop (i + 1) cs, take_snoc ec]
          simp
        rw [hput]
        conv => lhs; rw [e, put_append]
        rfl
      have hdd : l.drop (PyFlat.put (cs.take i)).length = PyFlat.put1 c ++ PyFlat.put (cs.drop (i + 1)) := by
        conv => lhs; rw [hd]
        exact List.drop_left ..
      have h1 := put1_pos hc
      have hlen := congrArg List.length hd
      rw [List.length_append, List.length_append] at hlen
      rw [decide_eq_false (by omega)]
      refine iteT ⟨fun σ' H2 => ∃ as : List Addr, σ' = [some (.ref a), some (.ref r), some (.ref q)] ∧ H2 r = some (.ins C dx (rf a (((PyFlat.put (cs.take (i + 1))).length : Nat) : Int))) ∧
        H2 q = some (.lst (as.map V.ref)) ∧ as.length = i + 1 ∧ (∀ b o, H0 b = some o → b ≠ r → b ≠ q → H2 b = some o) ∧ ∀ (j : Nat) b c, as[j]? = some b → cs[j]? = some c → NewRows H0 H2 b c,
        fun σ' H2 ⟨as', h⟩ => ⟨cs.length - (i + 1), by omega, i + 1, as', hlt, rfl, h⟩, ?_⟩
      refine ⟨_, rfl, .inl ⟨rfl, _, SqL.of hq'⟩, _, rfl, r, dx, a, (PyFlat.put (cs.take i)).length, l, c, PyFlat.put (cs.drop (i + 1)), rfl, hr', hL', hll, hdd, hc, fun H2 u hN2 hr2 hk2 => ?_⟩
      have hq2 : H2 q = some (.lst (as.map V.ref)) := hk2 _ _ hq' (Ne.symm nrq)
      refine ⟨q, _, _, rfl, rfl, hq2, (by rw [List.length_map]; omega), ?_⟩
      have nu : NewRows H0 H2 u c := hN2.old fr0
      have up : ∀ {b : Addr} {d : List (List Int)}, NewRows H0 H2 b d → NewRows H0 (upd H2 q (.lst (as.map V.ref ++ [.ref u]))) b d := fun h => h.keep fun b o e hn => by
        rw [upd_ne (ne_of_none q0 hn).symm]; exact e
      refine ⟨as ++ [u], rfl, ?_, ?_, ?_, ?_, ?_⟩
      · rw [upd_ne nrq, hr2, take_snoc ec, put_append, List.length_append]
        show _ = some (HO.ins C dx (rf a (((PyFlat.put (cs.take i)).length + (PyFlat.put1 c ++ []).length : Nat) : Int)))
        rw [List.append_nil]
      · rw [upd_same, List.map_append]; rfl
      · rw [List.length_append, List.length_singleton, hal]
      · intro b o e h1 h2
        rw [upd_ne h2]
        exact hk2 _ _ (hk b o e h1 h2) h1
      · intro j b d e1 e2
        by_cases hj : j < as.length
        · rw [List.getElem?_append_left hj] at e1
          refine up ((hN j b d e1 e2).keep fun b' o e hn => hk2 _ _ e (ne_of_none r0 hn).symm)
        · rw [List.getElem?_append_right (by omega)] at e1
          have ej : j = i := by
            have := (List.getElem?_eq_some_iff.mp e1).1
            rw [List.length_singleton] at this
            omega
          subst ej
          rw [hal, Nat.sub_self] at e1
          cases e1
          rw [ec] at e2
          cases e2
          exact up nu
    · have ei : i = cs.length := by omega
      subst ei
      rw [List.take_length, ← hput, decide_eq_true (Int.le_refl _)]
      refine iteF ⟨_, rfl, k H' q (fun b o e => hk _ _ (S0 _ _ e) (ne_of_none e n1) (ne_of_none e fq)) ⟨as, hq', hal, fq, fun j b c e1 e2 => (hN j b c e1 e2).old fun b' hb => S0.free hb⟩⟩
end
end Gd
end
section
set_option Elab.async false
set_option maxRecDepth 100000
set_option maxHeartbeats 2000000
set_option linter.all false
namespace Gd
open PySem PySem.Spec PyProof.Rows L2
open Vbecaj (State)
def pf (a1 a2 : Addr) : List (Str × V) := putF "draw_rows" (.ref a2) (putF "kind_rows" (.ref a1) [])
theorem pf_draw (a1 a2 : Addr) : (pf a1 a2).lookup ("draw_rows" : Str) = some (.ref a2) := by
  unfold pf; rw [lookup_putF, if_pos rfl]
theorem pf_kind (a1 a2 : Addr) : (pf a1 a2).lookup ("kind_rows" : Str) = some (.ref a1) := by
  unfold pf; rw [lookup_putF, if_neg (by decide +kernel), lookup_putF, if_pos rfl]
theorem pf_no (a1 a2 : Addr) {m : Str} (h1 : ¬ m = "draw_rows") (h2 : ¬ m = "kind_rows") : (pf a1 a2).lookup m = none := by
  unfold pf; rw [lookup_putF, if_neg h1, lookup_putF, if_neg h2]; rfl
theorem pf_eq (a1 a2 : Addr) : pf a1 a2 = [(("kind_rows" : Str), .ref a1), ("draw_rows", .ref a2)] := by
  show (if ("kind_rows" : Str) = "draw_rows" then [(("kind_rows" : Str), V.ref a2)] else [(("kind_rows" : Str), V.ref a1), ("draw_rows", .ref a2)]) = _
  rw [if_neg (by decide +kernel)]
theorem pf_put (a1 a2 b1 b2 : Addr) : putF "draw_rows" (.ref b2) (putF "kind_rows" (.ref b1) (pf a1 a2)) = pf b1 b2 := by
  rw [pf_eq, pf_eq]
  have e : putF "kind_rows" (V.ref b1) [(("kind_rows" : Str), V.ref a1), ("draw_rows", .ref a2)] = [(("kind_rows" : Str), V.ref b1), ("draw_rows", .ref a2)] := by
    unfold putF
    rw [if_pos rfl]
  rw [e]
  unfold putF
  rw [if_neg (by decide +kernel)]
  unfold putF
  rw [if_pos rfl]
theorem pf_len (a1 a2 : Addr) : (pf a1 a2).length < 1000 := by rw [pf_eq]; show 2 < 1000; decide
structure PCls (K : PySem.W.Frag) (C : Addr) : Prop where
  cl : Cls K C
  nK : NoAttr K C "kind_rows"
  nD : NoAttr K C "draw_rows"
def krows (s : State) : List (List V) := if s.size = 0 then [] else (kr s.kinds s.turns).map nv
def drows (s : State) : List (List V) := s.turns.reverse.map nv
structure Pop (C : Addr) (H : Hp) (p a1 a2 : Addr) (F : List Addr) (s : State) : Prop where
  obj : ∃ dx, H p = some (.ins C dx (pf a1 a2))
  rows : ∃ as1 as2, VL H a1 as1 (krows s) ∧ VL H a2 as2 (drows s) ∧ a1 ≠ a2 ∧ a1 ∉ as1 ∧ a1 ∉ as2 ∧ a2 ∉ as1 ∧ a2 ∉ as2 ∧ (∀ b ∈ as1, b ∈ F) ∧ ∀ b ∈ as2, b ∈ F
  fm : s = Vbecaj.start ∨ Fm s
theorem krows_fm {s : State} (f : Fm s) : krows s = (kr s.kinds s.turns).map nv := by
  unfold krows
  rw [if_neg (by have := f.lo; omega)]
theorem krows_start : krows Vbecaj.start = [] := rfl
theorem Pop.keep {C : Addr} {H H' : Hp} {p a1 a2 : Addr} {F : List Addr} {s : State} (h : Pop C H p a1 a2 F s) (k : Same H H') : Pop C H' p a1 a2 F s := by
  obtain ⟨⟨dx, hp⟩, ⟨as1, as2, v1, v2, r⟩, f⟩ := h
  exact ⟨⟨dx, k _ _ hp⟩, ⟨as1, as2, v1.same k, v2.same k, r⟩, f⟩
section
variable {P : Program} {w : World} {K : PySem.W.Frag} {mg : Str → Option Value} {base : Heap} {C : Addr}
def spPInit (C : Addr) : Sp := fun vs H Q _ => ∃ p dx, vs = [.ref p] ∧ H p = some (.ins C dx []) ∧ ∀ H' a1 a2, Pop C H' p a1 a2 [] Vbecaj.start → H a1 = none → H a2 = none → (∀ b o, H b = some o → b ≠ p → H' b = some o) → Q .non H'
theorem ok_Pop_init (F : FnI K C "Population.__init__" s_Population___init__ ["self"]) (T : PCls K C) : HasI P w K mg base 1 C ["self"] (spPInit C) := by
  refine F.has (k := 0) sc_Population___init__ (fun vs H Q E h => ?_) (fun f cdv A outer s H vs Q E hr h => ?_)
  · obtain ⟨p, dx, rfl, _⟩ := h
    rfl
  · obtain ⟨p, dx, rfl, h1, k⟩ := h
    refine ⟨_, pss_cons (ps_fld (pv 0) (pe_lst pa_nil) rfl) (pss_one (ps_fld (pv 0) (pe_lst pa_nil) rfl)), ?_⟩
    refine ⟨Nat.zero_le _, fun a1 n1 => ⟨_, rfl, p, C, dx, _, rfl, (by rw [upd_ne (ne_of_none h1 n1)]; exact h1), T.cl, T.nK, (by show 0 < 1000; decide), Nat.zero_le _, fun a2 n2 => ⟨_, rfl, p, C, dx, putF "kind_rows" (.ref a1) [], rfl, ?_, T.cl, T.nD, (by show 1 < 1000; decide), ?_⟩⟩⟩
    · have e : upd (upd H a1 (.lst [])) p (.ins C dx (putF "kind_rows" (.ref a1) [])) p = some (.ins C dx (putF "kind_rows" (.ref a1) [])) := upd_same
      rw [upd_ne (ne_of_none e n2)]; exact e
    · have np1 : p ≠ a1 := ne_of_none h1 n1
      have np2 : p ≠ a2 := fun z => by subst z; rw [upd_same] at n2; cases n2
      have n12 : a1 ≠ a2 := fun z => by subst z; rw [upd_ne (Ne.symm np1), upd_same] at n2; cases n2
      have n2' : H a2 = none := by
        rw [upd_ne (Ne.symm np2), upd_ne (Ne.symm n12)] at n2; exact n2
      refine k _ a1 a2 ⟨⟨dx, upd_same⟩, ⟨[], [], ⟨?_, rfl, fun i b xs e => by cases e⟩, ⟨?_, rfl, fun i b xs e => by cases e⟩, n12, by simp, by simp, by simp, by simp, by simp, by simp⟩, .inl rfl⟩ n1 n2' ?_
      · rw [upd_ne (Ne.symm np1), upd_ne n12, upd_ne (Ne.symm np1), upd_same]; rfl
      · rw [upd_ne (Ne.symm np2), upd_same]; rfl
      · intro b o e hb
        rw [upd_ne hb, upd_ne (ne_of_none e n2'), upd_ne hb, upd_ne (ne_of_none e n1)]; exact e
def spHas (C : Addr) : Sp := fun vs H Q _ => ∃ p a1 a2 F s, vs = [.ref p] ∧ Pop C H p a1 a2 F s ∧ Q (.bl (decide (s.size ≠ 0))) H
theorem ok_Pop_has (F : FnM K C "has_copies" "Population.has_copies" s_Population_has_copies ["self"]) (T : PCls K C) (nLen : mg "len" = none) : HasM P w K mg base 1 C "has_copies" ["self"] (spHas C) := by
  refine F.has (k := 0) sc_Population_has_copies (fun vs H Q E h => ?_) (fun f cdv A outer s H vs Q E hr h => ?_)
  · obtain ⟨p, a1, a2, F', s, rfl, _⟩ := h
    rfl
  · obtain ⟨p, a1, a2, F', s, rfl, hP, q⟩ := h
    obtain ⟨⟨dx, hp⟩, ⟨as1, as2, v1, v2, _⟩, fm⟩ := hP
    refine ⟨_, pss_one (ps_ret (pe_cmpR op_gt (pe_callB call_len_seq (by rfl) nLen PySem.boot_len (pa_cons (pe_fld (pv 0) rfl) pa_nil)) pe_int (nomark _))), ?_⟩
    refine ⟨_, rfl, p, C, dx, _, _, rfl, hp, T.cl, T.nK, pf_kind _ _, a1, _, rfl, .inl (SqL.of v1.at_), _, _, rfl, rfl, ?_⟩
    have e : decide ((0 : Int) < ((as1.map V.ref).length : Int)) = decide (s.size ≠ 0) := by
      rw [List.length_map, v1.len]
      rcases fm with rfl | fm
      · rfl
      · have := fm.lo
        rw [krows_fm fm, List.length_map, kr_length, decide_eq_true (by omega), decide_eq_true (by omega)]
    show Q (.bl (decide ((0 : Int) < _))) H
    rw [e]; exact q
def spGen (C : Addr) : Sp := fun vs H Q _ => ∃ p a1 a2 F s, vs = [.ref p] ∧ Pop C H p a1 a2 F s ∧ Q (.int (s.generation : Int)) H
theorem ok_Pop_gen (F : FnM K C "generation" "Population.generation" s_Population_generation ["self"]) (T : PCls K C) (nLen : mg "len" = none) : HasM P w K mg base 1 C "generation" ["self"] (spGen C) := by
  refine F.has (k := 0) sc_Population_generation (fun vs H Q E h => ?_) (fun f cdv A outer s H vs Q E hr h => ?_)
  · obtain ⟨p, a1, a2, F', s, rfl, _⟩ := h
    rfl
  · obtain ⟨p, a1, a2, F', s, rfl, hP, q⟩ := h
    obtain ⟨⟨dx, hp⟩, ⟨as1, as2, v1, v2, _⟩, fm⟩ := hP
    refine ⟨_, pss_one (ps_ret (pe_callB call_len_seq (by rfl) nLen PySem.boot_len (pa_cons (pe_fld (pv 0) rfl) pa_nil))), ?_⟩
    refine ⟨_, rfl, p, C, dx, _, _, rfl, hp, T.cl, T.nD, pf_draw _ _, a2, _, rfl, .inl (SqL.of v2.at_), ?_⟩
    have e : (as2.map V.ref).length = s.generation := by
      rw [List.length_map, v2.len]; unfold drows; rw [List.length_map, List.length_reverse]; rfl
    rw [e]; exact q
def spSize (C : Addr) : Sp := fun vs H Q _ => ∃ p a1 a2 F s, vs = [.ref p] ∧ Pop C H p a1 a2 F s ∧ Fm s ∧ Q (.int (s.size : Int)) H
theorem ok_Pop_size (F : FnM K C "size" "Population.size" s_Population_size ["self"]) (T : PCls K C) (nLen : mg "len" = none) : HasM P w K mg base 1 C "size" ["self"] (spSize C) := by
  refine F.has (k := 0) sc_Population_size (fun vs H Q E h => ?_) (fun f cdv A outer s H vs Q E hr h => ?_)
  · obtain ⟨p, a1, a2, F', s, rfl, _⟩ := h
    rfl
  · obtain ⟨p, a1, a2, F', s, rfl, hP, fm, q⟩ := h
    obtain ⟨⟨dx, hp⟩, ⟨as1, as2, v1, v2, _⟩, _⟩ := hP
    rw [krows_fm fm] at v1
    obtain ⟨b, hb, hbb⟩ := v1.get (i := 0) (xs := nv (State.mk s.kinds []).now) (by rw [List.getElem?_map, kr_head]; rfl)
    refine ⟨_, pss_one (ps_ret (pe_callB call_len_seq (by rfl) nLen PySem.boot_len (pa_cons (pe_ix ix_list (pe_fld (pv 0) rfl) pe_int (fun _ _ => rfl)) pa_nil))), ?_⟩
    refine ⟨_, rfl, p, C, dx, _, _, rfl, hp, T.cl, T.nK, pf_kind _ _, a1, _, _, _, rfl, rfl, SqL.of v1.at_, atI_nat (j := 0) (v1.ref hb), b, _, rfl, .inl (SqL.of hbb), ?_⟩
    rw [nv_length, now_length]; exact q
def spNewest (C : Addr) : Sp := fun vs H Q _ => ∃ p a1 a2 F s, vs = [.ref p] ∧ Pop C H p a1 a2 F s ∧ Fm s ∧ ∀ r, H r = none → Q (.ref r) (upd H r (.lst (nv s.now)))
theorem ok_Pop_newest (F : FnM K C "newest_kinds" "Population.newest_kinds" s_Population_newest_kinds ["self"]) (T : PCls K C) (nList : mg "list" = none) : HasM P w K mg base 1 C "newest_kinds" ["self"] (spNewest C) := by
  refine F.has (k := 0) sc_Population_newest_kinds (fun vs H Q E h => ?_) (fun f cdv A outer s H vs Q E hr h => ?_)
  · obtain ⟨p, a1, a2, F', s, rfl, _⟩ := h
    rfl
  · obtain ⟨p, a1, a2, F', s, rfl, hP, fm, q⟩ := h
    obtain ⟨⟨dx, hp⟩, ⟨as1, as2, v1, v2, _⟩, _⟩ := hP
    rw [krows_fm fm] at v1
    obtain ⟨Y, hY⟩ := kr_snoc s.kinds s.turns
    have hY : kr s.kinds s.turns = Y ++ [s.now] := hY
    obtain ⟨b, hb, hbb⟩ := v1.get (i := Y.length) (xs := nv s.now) (by rw [List.getElem?_map, hY, List.getElem?_append_right (Nat.le_refl _), Nat.sub_self]; rfl)
    have hl : as1.length = Y.length + 1 := by rw [v1.len, List.length_map, hY, List.length_append]; rfl
    have hat : atI (as1.map V.ref) (-1) = some (.ref b) := by
      have e : as1 = as1.take Y.length ++ [b] := by
        rw [← take_snoc hb, ← hl, List.take_length]
      rw [e, List.map_append]
      exact atI_last _ _
    refine ⟨_, pss_one (ps_ret (pe_callTy call_list_of (by rfl) nList bt_list (pa_cons (pe_ix ix_list (pe_fld (pv 0) rfl) (pe_un un_neg pe_int) (fun _ _ => rfl)) pa_nil))), ?_⟩
    exact ⟨_, rfl, p, C, dx, _, _, rfl, hp, T.cl, T.nK, pf_kind _ _, _, rfl, a1, _, _, _, rfl, rfl, SqL.of v1.at_, hat, b, _, rfl, .inl (SqL.of hbb), q⟩
end
end Gd
end
section
set_option Elab.async false
set_option maxRecDepth 100000
set_option maxHeartbeats 2000000
set_option linter.all false
namespace Gd
open PySem PySem.Spec PyProof.Rows L2
open Vbecaj (State)
theorem nv_toNat {l : List Int} (h : ∀ x ∈ l, 0 ≤ x) : nv (l.map Int.toNat) = iv l := by
  unfold nv iv
  rw [List.map_map]
  refine List.map_congr_left fun x hx => ?_
  show V.int ((x.toNat : Nat) : Int) = V.int x
  rw [Int.toNat_of_nonneg (h x hx)]
section
variable {P : Program} {w : World} {K : PySem.W.Frag} {mg : Str → Option Value} {base : Heap} {C : Addr}
def spBegin (C : Addr) : Sp := fun vs H Q _ => ∃ p d a1 a2 F s, ∃ l : List Nat, vs = [.ref p, .ref d] ∧ Pop C H p a1 a2 F s ∧ H d = some (.lst (nv l)) ∧ (1 ≤ l.length ∧ l.length ≤ 15 ∧ ∀ x ∈ l, x ≤ 9) ∧
  ∀ H' b1 b2 F', Pop C H' p b1 b2 F' { kinds := l, turns := [] } → (∀ b ∈ F', H b = none) → H b1 = none → H b2 = none → (∀ b o, H b = some o → b ≠ p → H' b = some o) → Q .non H'
theorem ok_Pop_begin (F : FnM K C "begin" "Population.begin" s_Population_begin ["self", "kinds"]) (T : PCls K C) (nList : mg "list" = none) : HasM P w K mg base 1 C "begin" ["self", "kinds"] (spBegin C) := by
  refine F.has (k := 0) sc_Population_begin (fun vs H Q E h => ?_) (fun f cdv A outer s H vs Q E hr h => ?_)
  · obtain ⟨p, d, a1, a2, F', s, l, rfl, _⟩ := h
    rfl
  · obtain ⟨p, d, a1, a2, F', s, l, rfl, hP, hD, hl, k⟩ := h
    obtain ⟨⟨dx, hp⟩, _, _⟩ := hP
    refine ⟨_, pss_cons (ps_fld (pv 0) (pe_lst (pa_cons (pe_callTy call_list_of (by rfl) nList bt_list (pa_cons (pv 1) pa_nil)) pa_nil)) rfl) (pss_one (ps_fld (pv 0) (pe_lst pa_nil) rfl)), ?_⟩
    refine ⟨_, rfl, d, _, rfl, .inl (SqL.of hD), fun c n1 => ⟨(by show 1 ≤ sizeLine; rw [sizeLine_eq]; decide), fun b1 n2 => ?_⟩⟩
    have np1 : p ≠ c := ne_of_none hp n1
    have nc1 : c ≠ b1 := ne_of_none (H := upd H c (.lst (nv l))) upd_same n2
    have n2' : H b1 = none := by rw [upd_ne (Ne.symm nc1)] at n2; exact n2
    have np2 : p ≠ b1 := ne_of_none hp n2'
    have h2 : upd (upd H c (.lst (nv l))) b1 (.lst [V.ref c]) p = some (.ins C dx (pf a1 a2)) := by rw [upd_ne np2, upd_ne np1]; exact hp
    refine ⟨_, rfl, p, C, dx, _, rfl, h2, T.cl, T.nK, pf_len _ _, Nat.zero_le _, fun b2 n3 => ?_⟩
    generalize hG : upd (upd (upd H c (.lst (nv l))) b1 (.lst [V.ref c])) p (.ins C dx (putF "kind_rows" (.ref b1) (pf a1 a2))) = G at n3
    have gp : G p = some (.ins C dx (putF "kind_rows" (.ref b1) (pf a1 a2))) := by rw [← hG]; exact upd_same
    have gb : G b1 = some (.lst [V.ref c]) := by rw [← hG, upd_ne (Ne.symm np2)]; exact upd_same
    have gc : G c = some (.lst (nv l)) := by rw [← hG, upd_ne (Ne.symm np1), upd_ne nc1]; exact upd_same
    have gk : ∀ b o, H b = some o → b ≠ p → G b = some o := fun b o e hb => by rw [← hG, upd_ne hb, upd_ne (ne_of_none e n2'), upd_ne (ne_of_none e n1)]; exact e
    clear hG
    have np3 : p ≠ b2 := ne_of_none gp n3
    have n13 : b1 ≠ b2 := ne_of_none gb n3
    have nc3 : c ≠ b2 := ne_of_none gc n3
    have n3' : H b2 = none := by
      cases e : H b2 with
      | none => rfl
      | some o => rw [gk b2 o e (Ne.symm np3)] at n3; cases n3
    have fl : ({ kinds := l, turns := [] } : State).size = l.length := rfl
    have fm : Fm { kinds := l, turns := [] } := ⟨hl.1, hl.2.1, Nat.zero_le _, hl.2.2, fun r hr => by cases hr⟩
    refine ⟨_, rfl, p, C, dx, _, rfl, (by rw [upd_ne np3]; exact gp), T.cl, T.nD, ?_, ?_⟩
    · show (putF "kind_rows" (V.ref b1) (pf a1 a2)).length < 1000
      have := length_putF "kind_rows" (V.ref b1) (pf a1 a2)
      have h3 : (pf a1 a2).length = 2 := by rw [pf_eq]; rfl
      omega
    · rw [pf_put]
      refine k _ b1 b2 [c] ⟨⟨dx, upd_same⟩, ⟨[c], [], ⟨?_, ?_, ?_⟩, ⟨?_, rfl, fun i b xs e => by cases e⟩, n13, ?_, by simp, ?_, by simp, fun _ h => h, by simp⟩, .inr fm⟩ (fun b hb => by rw [List.mem_singleton.mp hb]; exact n1) n2' n3' ?_
      · rw [upd_ne (Ne.symm np2), upd_ne n13]; exact gb
      · rw [krows_fm fm]; rfl
      · intro i b xs e1 e2
        cases i with
        | zero =>
          cases e1
          rw [krows_fm fm] at e2
          have e3 : xs = nv l := by
            have : some (nv (State.mk l []).now) = some xs := e2
            rw [now_zero rfl] at this
            exact (Option.some.inj this).symm
          rw [e3, upd_ne (Ne.symm np1), upd_ne nc3]; exact gc
        | succ i => cases e1
      · rw [upd_ne (Ne.symm np3)]; exact upd_same
      · simp only [List.mem_singleton]; exact Ne.symm nc1
      · simp only [List.mem_singleton]; exact Ne.symm nc3
      · intro b o e hb
        rw [upd_ne hb, upd_ne (ne_of_none e n3')]; exact gk b o e hb
theorem nv_ne_refs {l : List Nat} {as : List Addr} (h : l ≠ []) : nv l ≠ as.map V.ref := by
  intro e
  cases l with
  | nil => exact h rfl
  | cons x l =>
    cases as with
    | nil => cases e
    | cons a as => cases e
theorem getD_get {l : List Nat} {x : Nat} (h : x < l.length) : (nv l)[x]? = some (.int (l.getD x 0 : Nat)) := by
  unfold nv
  rw [List.getElem?_map, List.getElem?_eq_getElem h, List.getD_eq_getElem?_getD, List.getElem?_eq_getElem h]; rfl
theorem nv_snoc {l : List Nat} {i x : Nat} (f : Nat → Nat) (h : l[i]? = some x) : nv ((l.take (i + 1)).map f) = nv ((l.take i).map f) ++ [.int (f x : Nat)] := by
  rw [take_snoc h]; unfold nv; simp
def spTurn (C : Addr) : Sp := fun vs H Q _ => ∃ p d a1 a2 F s, ∃ l : List Nat, vs = [.ref p, .ref d] ∧ Pop C H p a1 a2 F s ∧ Fm s ∧ H d = some (.lst (nv l)) ∧ (l.length = s.size ∧ (∀ x ∈ l, x < s.size) ∧ s.turns.length < 100) ∧
  ∀ H' F', Pop C H' p a1 a2 F' { s with turns := l :: s.turns } → (∀ b ∈ F', b ∈ F ∨ H b = none) → (∀ b o, H b = some o → b ≠ a1 → b ≠ a2 → H' b = some o) → Q .non H'
theorem ok_Pop_turn (F : FnM K C "turn" "Population.turn" s_Population_turn ["self", "draws"]) (T : PCls K C) (nList : mg "list" = none) : HasM P w K mg base 1 C "turn" ["self", "draws"] (spTurn C) := by
  refine F.has (k := 0) sc_Population_turn (fun vs H Q E h => ?_) (fun f cdv A outer s H vs Q E hr h => ?_)
  · obtain ⟨p, d, a1, a2, F', s, l, rfl, _⟩ := h
    rfl
  · obtain ⟨p, d, a1, a2, F', s, l, rfl, hP, fm, hD, hl, k⟩ := h
    obtain ⟨⟨dx, hp⟩, ⟨as1, as2, v1, v2, n12, m11, m12, m21, m22, hF1, hF2⟩, _⟩ := hP
    rw [krows_fm fm] at v1
    obtain ⟨Y, hY⟩ := kr_snoc s.kinds s.turns
    have hY : kr s.kinds s.turns = Y ++ [s.now] := hY
    obtain ⟨b, hb, hbb⟩ := v1.get (i := Y.length) (xs := nv s.now) (by rw [List.getElem?_map, hY, List.getElem?_append_right (Nat.le_refl _), Nat.sub_self]; rfl)
    have hl1 : as1.length = Y.length + 1 := by rw [v1.len, List.length_map, hY, List.length_append]; rfl
    have hat : atI (as1.map V.ref) (-1) = some (.ref b) := by
      have e : as1 = as1.take Y.length ++ [b] := by
        rw [← take_snoc hb, ← hl1, List.take_length]
      rw [e, List.map_append]
      exact atI_last _ _
    have hYl : Y.length + 1 = s.turns.length + 1 := by
      have := kr_length s.kinds s.turns
      rw [hY, List.length_append] at this; exact this
    have hsl : sizeLine = 16777216 := sizeLine_eq
    have hlo := fm.lo
    have hhi := fm.hi
    have hgen := fm.gen
    refine ⟨_, pss_cons (ps_set (i := 2) sc_Population_turn.nd rfl (Or.inr rfl) (pe_ix ix_list (pe_fld (pv 0) rfl) (pe_un un_neg pe_int) (fun _ _ => rfl)))
      (pss_cons (ps_expr (pe_bm PySem.F.plainAttrs_list PySem.F.slot_list_append PySem.F.type_list_append mt_append (pe_fld (pv 0) rfl)
        (pa_cons (pe_lc (own := [("parent", 3)]) rfl sc_Population_turn.nd (pi_list (pv 1)) (blkOk_by (by rfl)) (fun _ _ _ _ _ => pg_name (i := 3) sc_Population_turn.nd rfl (Or.inl rfl)) (fun _ _ _ _ _ => pts_nil) (fun _ _ _ _ _ => pe_ix (r := rIxL K) ix_list (pv 2) (pv 3) (fun _ _ => rfl))) pa_nil)))
      (pss_one (ps_expr (pe_bm PySem.F.plainAttrs_list PySem.F.slot_list_append PySem.F.type_list_append mt_append (pe_fld (pv 0) rfl)
        (pa_cons (pe_callTy call_list_of (by rfl) nList bt_list (pa_cons (pv 1) pa_nil)) pa_nil))))), ?_⟩
    refine ⟨_, rfl, p, C, dx, _, _, rfl, hp, T.cl, T.nK, pf_kind _ _, _, rfl, a1, _, _, _, rfl, rfl, SqL.of v1.at_, hat, ?_⟩
    refine ⟨_, rfl, p, C, dx, _, _, rfl, hp, T.cl, T.nK, pf_kind _ _, .inl ⟨rfl, _, SqL.of v1.at_⟩, _, rfl, d, rfl, ⟨_, SqL.of hD⟩, fun D nD => ?_⟩
    have keepD : ∀ (x : HO) b o, H b = some o → upd H D x b = some o := fun x b o e => by rw [upd_ne (ne_of_none e nD)]; exact e
    refine lc_list (K := K) (a := d) (xs := nv l) (fun i H' => H' = upd H D (.lst (nv ((l.take i).map fun c => s.now.getD c 0)))) rfl (fun i H' _ e => by rw [e]; exact SqL.of (keepD _ _ _ hD)) ?_ ?_
    · rintro i x H' hx rfl
      obtain ⟨c, hc, rfl⟩ := nv_get hx
      have hcn : c < s.now.length := by rw [now_length]; exact hl.2.1 c (List.mem_of_getElem? hc)
      refine ⟨rfl, yes (iteT ⟨_, rfl, _, rfl, b, _, _, _, rfl, rfl, SqL.of (keepD _ _ _ hbb), atI_nat (getD_get hcn), _, upd_same, ?_, ?_⟩)⟩
      · rw [nv_length, List.length_map, List.length_take]; omega
      · rw [upd_upd, nv_snoc _ hc]
    · rintro H' rfl
      rw [nv_length, List.take_length, ← now_turn hl.1 hl.2.1]
      generalize hn' : ({ s with turns := l :: s.turns } : State).now = nw
      have nDa : ∀ {x : Addr} {o : HO}, H x = some o → x ≠ D := fun e => ne_of_none e nD
      refine ⟨a1, _, _, rfl, rfl, keepD _ _ _ v1.at_, (by rw [List.length_map]; omega), ?_⟩
      generalize hG : upd (upd H D (.lst (nv nw))) a1 (.lst (as1.map V.ref ++ [V.ref D])) = G
      have gk : ∀ b o, H b = some o → b ≠ a1 → G b = some o := fun b o e hb => by rw [← hG, upd_ne hb]; exact keepD _ _ _ e
      have ga1 : G a1 = some (.lst (as1.map V.ref ++ [V.ref D])) := by rw [← hG]; exact upd_same
      have gD : G D = some (.lst (nv nw)) := by rw [← hG, upd_ne (Ne.symm (nDa v1.at_))]; exact upd_same
      clear hG
      have npa1 : p ≠ a1 := ne_of hp v1.at_ (by intro z; cases z)
      have npa2 : p ≠ a2 := ne_of hp v2.at_ (by intro z; cases z)
      have gp : G p = some (.ins C dx (pf a1 a2)) := gk _ _ hp npa1
      have ga2 : G a2 = some (.lst (as2.map V.ref)) := gk _ _ v2.at_ (Ne.symm n12)
      have hl0 : l ≠ [] := fun z => by rw [z, List.length_nil] at hl; omega
      have hD2 : G d = some (.lst (nv l)) := gk _ _ hD (ne_of hD v1.at_ fun z => nv_ne_refs hl0 (HO.lst.inj z))
      refine ⟨_, rfl, p, C, dx, _, _, rfl, gp, T.cl, T.nD, pf_draw _ _, .inl ⟨rfl, _, SqL.of ga2⟩, _, rfl, d, _, rfl, .inl (SqL.of hD2), fun e2 ne2 => ?_⟩
      have hl2 : as2.length = s.turns.length := by rw [v2.len]; unfold drows; rw [List.length_map, List.length_reverse]
      have ga2' : upd G e2 (.lst (nv l)) a2 = some (.lst (as2.map V.ref)) := by rw [upd_ne (ne_of_none ga2 ne2)]; exact ga2
      refine ⟨a2, _, _, rfl, rfl, ga2', (by rw [List.length_map]; omega), ?_⟩
      generalize hF : upd (upd G e2 (.lst (nv l))) a2 (.lst (as2.map V.ref ++ [V.ref e2])) = G'
      have fk : ∀ b o, G b = some o → b ≠ a2 → G' b = some o := fun b o e hb => by rw [← hF, upd_ne hb, upd_ne (ne_of_none e ne2)]; exact e
      have fa2 : G' a2 = some (.lst (as2.map V.ref ++ [V.ref e2])) := by rw [← hF]; exact upd_same
      have nea : e2 ≠ a2 := (ne_of_none ga2 ne2).symm
      have fe2 : G' e2 = some (.lst (nv l)) := by rw [← hF, upd_ne nea]; exact upd_same
      clear hF
      have nDa1 : D ≠ a1 := (nDa v1.at_).symm
      have nDa2 : D ≠ a2 := (nDa v2.at_).symm
      have nea1 : e2 ≠ a1 := (ne_of_none ga1 ne2).symm
      have fm' : Fm { s with turns := l :: s.turns } := ⟨fm.lo, fm.hi, hl.2.2, fm.kin, fun r hr => by
        rcases List.mem_cons.mp hr with rfl | hr
        · exact ⟨hl.1, hl.2.1⟩
        · exact fm.rows r hr⟩
      have fe2H : H e2 = none := by
        cases e : H e2 with
        | none => rfl
        | some o => rw [gk e2 o e nea1] at ne2; cases ne2
      refine k G' (D :: e2 :: F') ⟨⟨dx, fk _ _ gp npa2⟩, ⟨as1 ++ [D], as2 ++ [e2], ?_, ?_, n12, ?_, ?_, ?_, ?_, ?_, ?_⟩, .inr fm'⟩ ?_ fun b o e h1 h2 => fk _ _ (gk _ _ e h1) h2
      · rw [krows_fm fm']
        show VL G' a1 (as1 ++ [D]) ((kr s.kinds s.turns ++ [({ s with turns := l :: s.turns } : State).now]).map nv)
        rw [hn', List.map_append]
        exact v1.snoc (fk _ _ ga1 n12) (fk _ _ gD nDa2) fun c o e hc => fk _ _ (gk _ _ e fun z => m11 (z ▸ hc)) fun z => m21 (z ▸ hc)
      · have e : drows { s with turns := l :: s.turns } = drows s ++ [nv l] := by
          unfold drows
          show ((l :: s.turns).reverse).map nv = _
          rw [List.reverse_cons, List.map_append]; rfl
        rw [e]
        exact v2.snoc fa2 fe2 fun c o e hc => fk _ _ (gk _ _ e fun z => m12 (z ▸ hc)) fun z => m22 (z ▸ hc)
      · intro z
        rcases List.mem_append.mp z with z | z
        · exact m11 z
        · exact nDa1 (List.mem_singleton.mp z).symm
      · intro z
        rcases List.mem_append.mp z with z | z
        · exact m12 z
        · exact nea1 (List.mem_singleton.mp z).symm
      · intro z
        rcases List.mem_append.mp z with z | z
        · exact m21 z
        · exact nDa2 (List.mem_singleton.mp z).symm
      · intro z
        rcases List.mem_append.mp z with z | z
        · exact m22 z
        · exact nea (List.mem_singleton.mp z).symm
      · intro b hb
        rcases List.mem_append.mp hb with hb | hb
        · exact List.mem_cons_of_mem _ (List.mem_cons_of_mem _ (hF1 b hb))
        · rw [List.mem_singleton.mp hb]; exact List.mem_cons_self ..
      · intro b hb
        rcases List.mem_append.mp hb with hb | hb
        · exact List.mem_cons_of_mem _ (List.mem_cons_of_mem _ (hF2 b hb))
        · rw [List.mem_singleton.mp hb]; exact List.mem_cons_of_mem _ (List.mem_cons_self ..)
      · intro b hb
        rcases List.mem_cons.mp hb with rfl | hb
        · exact .inr nD
        · rcases List.mem_cons.mp hb with rfl | hb
          · exact .inr fe2H
          · exact .inl hb
theorem VL.pop {H H' : Hp} {a : Addr} {as : List Addr} {xss : List (List V)} {xs : List V} (h : VL H a as (xss ++ [xs])) (ha : H' a = some (.lst (as.map V.ref).dropLast)) (k : ∀ c o, H c = some o → c ∈ as → H' c = some o) : VL H' a as.dropLast xss := by
  have hl : as.length = xss.length + 1 := by rw [h.len, List.length_append]; rfl
  refine ⟨by rw [ha, List.map_dropLast], by rw [List.length_dropLast, hl]; rfl, fun i b ys e1 e2 => ?_⟩
  have hi := (List.getElem?_eq_some_iff.mp e2).1
  have e1' : as[i]? = some b := by
    rw [List.dropLast_eq_take, List.getElem?_take_of_lt (by omega)] at e1; exact e1
  exact k _ _ (h.sub i b ys e1' (by rw [List.getElem?_append_left hi]; exact e2)) (List.mem_of_getElem? e1')
def spUndo (C : Addr) : Sp := fun vs H Q _ => ∃ p a1 a2 F s, ∃ (l : List Nat) (r : List (List Nat)), vs = [.ref p] ∧ Pop C H p a1 a2 F s ∧ Fm s ∧ s.turns = l :: r ∧
  ∀ H', Pop C H' p a1 a2 F { s with turns := r } → (∀ b o, H b = some o → b ≠ a1 → b ≠ a2 → H' b = some o) → Q .non H'
theorem ok_Pop_undo (F : FnM K C "undo" "Population.undo" s_Population_undo ["self"]) (T : PCls K C) : HasM P w K mg base 1 C "undo" ["self"] (spUndo C) := by
  refine F.has (k := 0) sc_Population_undo (fun vs H Q E h => ?_) (fun f cdv A outer s H vs Q E hr h => ?_)
  · obtain ⟨p, a1, a2, F', s, l, r, rfl, _⟩ := h
    rfl
  · obtain ⟨p, a1, a2, F', s, l, r, rfl, hP, fm, ht, k⟩ := h
    obtain ⟨⟨dx, hp⟩, ⟨as1, as2, v1, v2, n12, m11, m12, m21, m22, hF1, hF2⟩, _⟩ := hP
    have ek : krows s = (kr s.kinds r).map nv ++ [nv s.now] := by
      rw [krows_fm fm, ht]
      show ((kr s.kinds r ++ [(State.mk s.kinds (l :: r)).now]).map nv) = _
      rw [List.map_append, ← ht]; rfl
    have ed : drows s = r.reverse.map nv ++ [nv l] := by
      unfold drows; rw [ht, List.reverse_cons, List.map_append]; rfl
    rw [ek] at v1
    rw [ed] at v2
    have last : ∀ {as : List Addr} {xss : List (List V)} {xs : List V} {a : Addr}, VL H a as (xss ++ [xs]) → ∃ y, (as.map V.ref)[(as.map V.ref).length - 1]? = some y := fun {as xss xs a} v => by
      have hl : as.length = xss.length + 1 := by rw [v.len, List.length_append]; rfl
      exact ⟨_, List.getElem?_eq_getElem (by rw [List.length_map]; omega)⟩
    obtain ⟨y1, hy1⟩ := last v1
    obtain ⟨y2, hy2⟩ := last v2
    refine ⟨_, pss_cons (ps_expr (pe_bm0 PySem.F.plainAttrs_list PySem.F.slot_list_pop PySem.F.type_list_pop mt_pop (pe_fld (pv 0) rfl)))
      (pss_one (ps_expr (pe_bm0 PySem.F.plainAttrs_list PySem.F.slot_list_pop PySem.F.type_list_pop mt_pop (pe_fld (pv 0) rfl)))), ?_⟩
    have npa1 : p ≠ a1 := ne_of hp v1.at_ (by intro z; cases z)
    have npa2 : p ≠ a2 := ne_of hp v2.at_ (by intro z; cases z)
    refine ⟨_, rfl, p, C, dx, _, _, rfl, hp, T.cl, T.nK, pf_kind _ _, .inl ⟨rfl, _, SqL.of v1.at_⟩, a1, _, _, rfl, rfl, v1.at_, hy1, ?_⟩
    have gp : upd H a1 (.lst (as1.map V.ref).dropLast) p = some (.ins C dx (pf a1 a2)) := by rw [upd_ne npa1]; exact hp
    have ga2 : upd H a1 (.lst (as1.map V.ref).dropLast) a2 = some (.lst (as2.map V.ref)) := by rw [upd_ne (Ne.symm n12)]; exact v2.at_
    refine ⟨_, rfl, p, C, dx, _, _, rfl, gp, T.cl, T.nD, pf_draw _ _, .inl ⟨rfl, _, SqL.of ga2⟩, a2, _, _, rfl, rfl, ga2, hy2, ?_⟩
    have fm' : Fm { s with turns := r } := ⟨fm.lo, fm.hi, by have := fm.gen; rw [ht, List.length_cons] at this; show r.length ≤ 100; omega, fm.kin, fun q hq => fm.rows q (by rw [ht]; exact List.mem_cons_of_mem _ hq)⟩
    refine k _ ⟨⟨dx, by rw [upd_ne npa2]; exact gp⟩, ⟨as1.dropLast, as2.dropLast, ?_, ?_, n12, ?_, ?_, ?_, ?_, fun b hb => hF1 b (List.dropLast_subset _ hb), fun b hb => hF2 b (List.dropLast_subset _ hb)⟩, .inr fm'⟩ fun b o e h1 h2 => by rw [upd_ne h2, upd_ne h1]; exact e
    · rw [krows_fm fm']
      refine v1.pop (by rw [upd_ne n12]; exact upd_same) fun c o e hc => ?_
      have z1 : c ≠ a2 := fun z => m21 (z ▸ hc)
      have z2 : c ≠ a1 := fun z => m11 (z ▸ hc)
      rw [upd_ne z1, upd_ne z2]; exact e
    · refine v2.pop upd_same fun c o e hc => ?_
      have z1 : c ≠ a2 := fun z => m22 (z ▸ hc)
      have z2 : c ≠ a1 := fun z => m12 (z ▸ hc)
      rw [upd_ne z1, upd_ne z2]; exact e
    · exact fun z => m11 (List.dropLast_subset _ z)
    · exact fun z => m12 (List.dropLast_subset _ z)
    · exact fun z => m21 (List.dropLast_subset _ z)
    · exact fun z => m22 (List.dropLast_subset _ z)
end
end Gd
end
section
set_option Elab.async false
set_option maxRecDepth 100000
set_option maxHeartbeats 2000000
set_option linter.all false
namespace Gd
open PySem PySem.Spec PyProof.Rows L2
open Vbecaj (State)
theorem firstMet_nodup (val : Nat → Int) : ∀ i, (firstMet val i).Nodup
  | 0 => List.nodup_nil
  | i + 1 => by
    rw [firstMet_succ]
    unfold step_dedup
    split
    · exact firstMet_nodup val i
    · rename_i h
      refine List.nodup_append.mpr ⟨firstMet_nodup val i, List.nodup_cons.mpr ⟨by simp, List.nodup_nil⟩, fun a ha b hb e => ?_⟩
      rw [List.mem_singleton.mp hb] at e
      exact h (List.any_eq_true.mpr ⟨a, ha, by rw [e]; exact beq_self_eq_true _⟩)
theorem map_getD (ns : List Int) : (List.range ns.length).map (fun i => ns.getD i 0) = ns := by
  refine List.ext_getElem? fun i => ?_
  rw [List.getElem?_map]
  by_cases h : i < ns.length
  · rw [List.getElem?_range h, List.getElem?_eq_getElem h]
    show some (ns.getD i 0) = _
    rw [List.getD_eq_getElem?_getD, List.getElem?_eq_getElem h]; rfl
  · rw [List.getElem?_eq_none (by rw [List.length_range]; omega), List.getElem?_eq_none (by omega)]; rfl
theorem set_size (l : List Nat) {ns : List Int} (e : ns = l.map fun (x : Nat) => (x : Int)) : (firstMet (fun i => ns.getD i 0) ns.length).length = (Vbecaj.different l).length := by
  refine different_length (firstMet_nodup _ _) fun z => ?_
  have h := firstMet_any (fun i => ns.getD i 0) ns.length z
  rw [map_getD] at h
  have m1 : z ∈ firstMet (fun i => ns.getD i 0) ns.length ↔ (firstMet (fun i => ns.getD i 0) ns.length).any (· == z) = true := by
    rw [List.any_eq_true]
    exact ⟨fun m => ⟨z, m, beq_self_eq_true _⟩, fun ⟨y, m, q⟩ => by rw [← eq_of_beq q]; exact m⟩
  rw [m1, h, List.any_eq_true, e]
  constructor
  · rintro ⟨y, m, q⟩
    obtain ⟨x, hx, rfl⟩ := List.mem_map.mp m
    exact ⟨x, hx, (eq_of_beq q).symm⟩
  · rintro ⟨x, hx, rfl⟩
    exact ⟨_, List.mem_map.mpr ⟨x, hx, rfl⟩, beq_self_eq_true _⟩
section
variable {P : Program} {w : World} {K : PySem.W.Frag} {mg : Str → Option Value} {base : Heap} {C : Addr}
def spParents (K : PySem.W.Frag) : Sp := fun vs H Q _ => ∃ c d, ∃ cl dl : List Nat, vs = [.ref c, .ref d] ∧ SqL K H c (nv cl) ∧ SqL K H d (nv dl) ∧ cl.length ≤ 15 ∧ (∀ x ∈ cl, x < dl.length) ∧ ∀ q, H q = none → Q (.ref q) (upd H q (.lst (nv (cl.map fun x => dl.getD x 0))))
theorem ok_parents_of (F : Fn K mg "parents_of" "parents_of" s_parents_of ["copies", "draws"]) : Has P w K mg base 1 "parents_of" ["copies", "draws"] (spParents K) := by
  refine F.has (k := 0) sc_parents_of (fun vs H Q E h => ?_) (fun f cdv A outer s H vs Q E hr h => ?_)
  · obtain ⟨c, d, cl, dl, rfl, _⟩ := h
    rfl
  · obtain ⟨c, d, cl, dl, rfl, hC, hD, hlen, hx, k⟩ := h
    refine ⟨_, pss_one (ps_ret (pe_lc (own := [("member", 2)]) rfl sc_parents_of.nd (pi_list (pv 0)) (blkOk_by (by rfl)) (fun _ _ _ _ _ => pg_name (i := 2) sc_parents_of.nd rfl (Or.inl rfl)) (fun _ _ _ _ _ => pts_nil) (fun _ _ _ _ _ => pe_ix (r := rIxL K) ix_list (pv 1) (pv 2) (fun _ _ => rfl)))), ?_⟩
    have hsl : sizeLine = 16777216 := sizeLine_eq
    refine ⟨_, rfl, c, rfl, ⟨_, hC⟩, fun D nD => ?_⟩
    have keepD : ∀ (x : HO) b o, H b = some o → upd H D x b = some o := fun x b o e => by rw [upd_ne (ne_of_none e nD)]; exact e
    refine lc_list (K := K) (a := c) (xs := nv cl) (fun i H' => H' = upd H D (.lst (nv ((cl.take i).map fun x => dl.getD x 0)))) rfl (fun i H' _ e => by rw [e]; exact SqL_at hC (keepD _ _)) ?_ ?_
    · rintro i x H' hx' rfl
      obtain ⟨y, hy, rfl⟩ := nv_get hx'
      refine ⟨rfl, yes (iteT ⟨_, rfl, _, rfl, d, _, _, _, rfl, rfl, SqL_at hD (keepD _ _), atI_nat (getD_get (hx y (List.mem_of_getElem? hy))), _, upd_same, ?_, ?_⟩)⟩
      · rw [nv_length, List.length_map, List.length_take]; omega
      · rw [upd_upd, nv_snoc _ hy]
    · rintro H' rfl
      rw [nv_length, List.take_length]
      exact k D nD
theorem drows_at {s : State} {t : Nat} (h : t < s.turns.length) : ∃ p, s.turns[t]? = some p ∧ (drows s)[s.turns.length - 1 - t]? = some (nv p) := by
  refine ⟨_, List.getElem?_eq_getElem h, ?_⟩
  unfold drows
  rw [List.getElem?_map, List.getElem?_reverse (by omega)]
  have e : s.turns.length - 1 - (s.turns.length - 1 - t) = t := by omega
  rw [e, List.getElem?_eq_getElem h]; rfl
def spAncestors (K : PySem.W.Frag) : Sp := fun vs H Q _ => ∃ c a2 as2, ∃ (s : State) (cl : List Nat) (t : Nat), vs = [.ref c, .ref a2, .int (t : Int)] ∧ SqL K H c (nv cl) ∧ VL H a2 as2 (drows s) ∧ Fm s ∧ cl.length ≤ 15 ∧ (∀ x ∈ cl, x < s.size) ∧ t ≤ s.generation ∧
  ∀ H' q, Same H H' → H q = none → H' q = some (.lst (nv (cl.map (s.back t)))) → Q (.ref q) H'
theorem ok_ancestors_of (F : Fn K mg "ancestors_of" "ancestors_of" s_ancestors_of ["copies", "draw_rows", "t"]) (hP : Has P w K mg base 1 "parents_of" ["copies", "draws"] (spParents K)) (nLen : mg "len" = none) (nList : mg "list" = none) (nRange : mg "range" = none) :
    Has P w K mg base 2 "ancestors_of" ["copies", "draw_rows", "t"] (spAncestors K) := by
  refine F.has (k := 1) sc_ancestors_of (fun vs H Q E h => ?_) (fun f cdv A outer s0 H vs Q E hr h => ?_)
  · obtain ⟨c, a2, as2, s, cl, t, rfl, _⟩ := h
    rfl
  · obtain ⟨c, a2, as2, s, cl, t, rfl, hC, hV, fm, hlen, hx, ht, k⟩ := h
    refine ⟨_, pss_cons (ps_set (i := 3) sc_ancestors_of.nd rfl (Or.inl rfl) (pe_callTy call_list_of (by rfl) nList bt_list (pa_cons (pv 0) pa_nil)))
      (pss_cons (ps_for PassesOwn.never rfl (pi_range1 rfl nRange (pa_cons (pv 2) pa_nil)) (pg_name (i := 4) sc_ancestors_of.nd rfl (Or.inl rfl))
        (pss_one (ps_set (i := 3) sc_ancestors_of.nd rfl (Or.inl rfl) (pe_fn hP hr rfl (pa_cons (pv 3) (pa_cons (pe_ix ix_list (pv 1) (pe_op op_sub (pe_op op_sub (pe_callB call_len_seq (by rfl) nLen PySem.boot_len (pa_cons (pv 1) pa_nil)) pe_int) (pv 4)) (fun _ _ => rfl)) pa_nil))))))
      (pss_one (ps_ret (pv 3)))), ?_⟩
    have hgen := fm.gen
    have htl : t ≤ s.turns.length := ht
    refine ⟨_, rfl, c, _, rfl, .inl hC, fun q0 n0 => ⟨_, rfl, _, rfl, by omega, by omega, ?_⟩⟩
    rw [Int.toNat_natCast]
    refine for_range (n := t) (fun i σ H' => ∃ (v : Option V) (q : Addr), σ = [some (.ref c), some (.ref a2), some (.int (t : Int)), some (.ref q), v] ∧ Same H H' ∧ H q = none ∧ H' q = some (.lst (nv (cl.map (s.back i)))))
      ⟨none, q0, rfl, fun b o e => by rw [upd_ne (ne_of_none e n0)]; exact e, n0, ?_⟩ ?_ ?_
    · rw [upd_same]
      have e : cl.map (s.back 0) = cl := by
        have : s.back 0 = id := funext fun c => back_zero s c
        rw [this, List.map_id]
      rw [e]
    · rintro i σ H' hi ⟨v, q, rfl, sm, nq, hq⟩
      obtain ⟨p, hp, hd⟩ := drows_at (s := s) (t := i) (by omega)
      have hV' := hV.same sm
      obtain ⟨b, hb, hbb⟩ := hV'.get hd
      have hl2 : as2.length = s.turns.length := by rw [hV.len]; unfold drows; rw [List.length_map, List.length_reverse]
      have hpf := fm.rows p (List.mem_of_getElem? hp)
      refine ⟨_, rfl, _, rfl, _, rfl, a2, _, rfl, .inl (SqL.of hV'.at_), _, _, rfl, rfl, _, rfl, _, _, rfl, rfl, a2, _, _, _, rfl, rfl, SqL.of hV'.at_, at_of (j := s.turns.length - 1 - i) ?_ (hV'.ref hb), q, b, _, _, rfl, SqL.of hq, SqL.of hbb, ?_, ?_, fun q' nq' => ?_⟩
      · rw [List.length_map, hl2]; omega
      · rw [List.length_map]; exact hlen
      · intro x hx'
        obtain ⟨y, hy, rfl⟩ := List.mem_map.mp hx'
        rw [hpf.1]; exact fm.back_lt i (hx y hy)
      · refine ⟨_, q', rfl, fun b o e => by rw [upd_ne (ne_of_none (sm _ _ e) nq')]; exact sm _ _ e, sm.free nq', ?_⟩
        rw [upd_same, List.map_map]
        have e : (cl.map ((fun x => p.getD x 0) ∘ s.back i)) = cl.map (s.back (i + 1)) := List.map_congr_left fun x _ => (back_succ x hp).symm
        rw [e]
    · rintro σ H' ⟨v, q, rfl, sm, nq, hq⟩
      exact ⟨_, rfl, k H' q sm nq hq⟩
def commonL (s : State) (cl : List Nat) : List Int := match s.common cl with
  | none => []
  | some t => [(t : Int), (s.back t (cl.headD 0) : Int)]
def spCommon (K : PySem.W.Frag) : Sp := fun vs H Q _ => ∃ c a2 as2, ∃ (s : State) (cl : List Nat), vs = [.ref c, .ref a2] ∧ SqL K H c (nv cl) ∧ VL H a2 as2 (drows s) ∧ Fm s ∧ cl ≠ [] ∧ cl.length ≤ 15 ∧ (∀ x ∈ cl, x < s.size) ∧
  ∀ H' q, Same H H' → H q = none → H' q = some (.lst (iv (commonL s cl))) → Q (.ref q) H'
theorem ok_common_ancestor (F : Fn K mg "common_ancestor" "common_ancestor" s_common_ancestor ["copies", "draw_rows"]) (hP : Has P w K mg base 1 "parents_of" ["copies", "draws"] (spParents K)) (nLen : mg "len" = none) (nList : mg "list" = none) (nSet : mg "set" = none) :
    Has P w K mg base 2 "common_ancestor" ["copies", "draw_rows"] (spCommon K) := by
  refine F.has (k := 1) sc_common_ancestor (fun vs H Q E h => ?_) (fun f cdv A outer s0 H vs Q E hr h => ?_)
  · obtain ⟨c, a2, as2, s, cl, rfl, _⟩ := h
    rfl
  · obtain ⟨c, a2, as2, s, cl, rfl, hC, hV, fm, hne, hlen, hx, k⟩ := h
    refine ⟨_, pss_cons (ps_set (i := 2) sc_common_ancestor.nd rfl (Or.inl rfl) (pe_callTy call_list_of (by rfl) nList bt_list (pa_cons (pv 0) pa_nil)))
      (pss_cons (ps_set (i := 3) sc_common_ancestor.nd rfl (Or.inl rfl) pe_int)
      (pss_cons (ps_while PassesOwn.never (pt_cmpR op_gt (pe_callB call_lenS (by rfl) nLen PySem.boot_len (pa_cons (pe_callTy (call_setL rfl) (by rfl) nSet bt_set (pa_cons (pv 2) pa_nil)) pa_nil)) pe_int (nomark _))
        (pss_cons (ps_if (pt_cmpR op_eq (pv 3) (pe_callB call_len_seq (by rfl) nLen PySem.boot_len (pa_cons (pv 1) pa_nil)) (nomark _)) (pss_one (ps_ret (pe_lst pa_nil))) pss_nil)
        (pss_cons (ps_set (i := 2) sc_common_ancestor.nd rfl (Or.inl rfl) (pe_fn hP hr rfl (pa_cons (pv 2) (pa_cons (pe_ix ix_list (pv 1) (pe_op op_sub (pe_op op_sub (pe_callB call_len_seq (by rfl) nLen PySem.boot_len (pa_cons (pv 1) pa_nil)) pe_int) (pv 3)) (fun _ _ => rfl)) pa_nil))))
        (pss_one (ps_aug (i := 3) sc_common_ancestor.nd rfl (Or.inl rfl) pe_int ip_add)))))
      (pss_one (ps_ret (pe_lst (pa_cons (pv 3) (pa_cons (pe_ix ix_list (pv 2) pe_int (fun _ _ => rfl)) pa_nil))))))), ?_⟩
    have hgen := fm.gen
    have hsl : sizeLine = 16777216 := sizeLine_eq
    have hl2 : as2.length = s.turns.length := by rw [hV.len]; unfold drows; rw [List.length_map, List.length_reverse]
    refine ⟨_, rfl, c, _, rfl, .inl hC, fun q0 n0 => ?_⟩
    refine ⟨fun m σ H' => ∃ (i : Nat) (q : Addr), i ≤ s.turns.length ∧ m = s.turns.length - i ∧ σ = [some (.ref c), some (.ref a2), some (.ref q), some (.int (i : Int))] ∧ Same H H' ∧ H q = none ∧ H' q = some (.lst (nv (cl.map (s.back i)))) ∧ ∀ u, u < i → (s.lines u cl).length ≠ 1,
      ⟨_, 0, q0, Nat.zero_le _, rfl, rfl, fun b o e => by rw [upd_ne (ne_of_none e n0)]; exact e, n0, ?_, fun u hu => by omega⟩, ?_⟩
    · rw [upd_same]
      have e : cl.map (s.back 0) = cl := by
        have : s.back 0 = id := funext fun c => back_zero s c
        rw [this, List.map_id]
      rw [e]
    · rintro m σ H' ⟨i, q, hi, rfl, rfl, sm, nq, hq, hb⟩
      rw [nv_iv] at hq
      refine ⟨_, rfl, q, _, rfl, SqL.of hq, ?_, fun u nu => ⟨u, _, _, rfl, upd_same, _, _, rfl, rfl, _, rfl, ?_⟩⟩
      · rw [List.length_map, List.length_map]
        show cl.length + 1 < scanBound
        have : scanBound = 4096 := rfl
        omega
      rw [set_size (cl.map (s.back i)) rfl]
      have hln : (Vbecaj.different (cl.map (s.back i))).length = (s.lines i cl).length := rfl
      rw [hln]
      have sm' : ∀ (x : HO), Same H (upd H' u x) := fun x b o e => by rw [upd_ne (ne_of_none (sm _ _ e) nu)]; exact sm _ _ e
      have hpos : 1 ≤ (s.lines i cl).length := by
        rw [← hln]
        exact different_pos (by intro z; exact hne (List.map_eq_nil_iff.mp z))
      generalize hG : upd H' u _ = G
      have sG : Same H G := by rw [← hG]; exact sm' _
      have gq : G q = some (.lst (iv ((cl.map (s.back i)).map fun (x : Nat) => (x : Int)))) := by rw [← hG, upd_ne (ne_of_none hq nu)]; exact hq
      clear hG
      by_cases h1 : 1 < (s.lines i cl).length
      · rw [decide_eq_true (by omega)]
        refine iteT ⟨fun σ' H2 => ∃ q' : Addr, i < s.turns.length ∧ σ' = [some (.ref c), some (.ref a2), some (.ref q'), some (.int ((i + 1 : Nat) : Int))] ∧ Same H H2 ∧ H q' = none ∧ H2 q' = some (.lst (nv (cl.map (s.back (i + 1))))),
          fun σ' H2 ⟨q', hlt, e, s2, n2, g2⟩ => ⟨s.turns.length - (i + 1), by omega, i + 1, q', hlt, rfl, e, s2, n2, g2, fun u hu => ?_⟩, ?_⟩
        · by_cases hui : u < i
          · exact hb u hui
          · have : u = i := by omega
            subst this; omega
        · have hVG := hV.same sG
          refine ⟨_, rfl, _, rfl, a2, _, rfl, .inl (SqL.of hVG.at_), rfl, _, rfl, ?_⟩
          rw [List.length_map, hl2]
          refine ite2 (fun he => ?_) (fun he => ?_)
          · have he := of_decide_eq_true he
            have he : (i : Int) = (s.turns.length : Int) := V.int.inj he
            refine ⟨Nat.zero_le _, fun r nr => k _ r (fun b o e => by rw [upd_ne (ne_of_none (sG _ _ e) nr)]; exact sG _ _ e) (sG.free nr) ?_⟩
            have ec : s.common cl = none := common_none fun u hu => by
              by_cases hui : u < i
              · exact hb u hui
              · have hu : u ≤ s.turns.length := hu
                have : u = i := by omega
                subst this; omega
            rw [upd_same]
            unfold commonL
            rw [ec]; rfl
          · have hlt : i < s.turns.length := by
              refine Nat.lt_of_le_of_ne hi fun z => he (decide_eq_true ?_)
              rw [z]
            obtain ⟨p, hp, hd⟩ := drows_at (s := s) (t := i) hlt
            obtain ⟨b, hb', hbb⟩ := hVG.get hd
            have hpf := fm.rows p (List.mem_of_getElem? hp)
            rw [← nv_iv] at gq
            refine ⟨_, rfl, _, rfl, _, rfl, a2, _, rfl, .inl (SqL.of hVG.at_), _, _, rfl, rfl, _, rfl, _, _, rfl, rfl, a2, _, _, _, rfl, rfl, SqL.of hVG.at_, at_of (j := s.turns.length - 1 - i) ?_ (hVG.ref hb'), q, b, _, _, rfl, SqL.of gq, SqL.of hbb, ?_, ?_, fun q' nq' => ?_⟩
            · rw [List.length_map, hl2]; omega
            · rw [List.length_map]; exact hlen
            · intro x hx'
              obtain ⟨y, hy, rfl⟩ := List.mem_map.mp hx'
              rw [hpf.1]; exact fm.back_lt i (hx y hy)
            · refine ⟨_, rfl, _, _, rfl, rfl, q', hlt, ?_, fun b o e => by rw [upd_ne (ne_of_none (sG _ _ e) nq')]; exact sG _ _ e, sG.free nq', ?_⟩
              · have e : ((i : Int) + 1) = ((i + 1 : Nat) : Int) := by omega
                rw [← e]; rfl
              · rw [upd_same, List.map_map]
                have e : (cl.map ((fun x => p.getD x 0) ∘ s.back i)) = cl.map (s.back (i + 1)) := List.map_congr_left fun x _ => (back_succ x hp).symm
                rw [e]
      · rw [decide_eq_false (by omega)]
        refine iteF ?_
        have h1' : (s.lines i cl).length = 1 := by omega
        have ec := common_some (s := s) (l := cl) (t := i) hi hb h1'
        rw [← nv_iv] at gq
        cases cl with
        | nil => exact absurd rfl hne
        | cons x cl =>
          refine ⟨_, rfl, _, rfl, q, _, _, _, rfl, rfl, SqL.of gq, atI_nat (j := 0) rfl, (by show 2 ≤ sizeLine; omega), fun r nr => k _ r (fun b o e => by rw [upd_ne (ne_of_none (sG _ _ e) nr)]; exact sG _ _ e) (sG.free nr) ?_⟩
          rw [upd_same]
          unfold commonL
          rw [ec]; rfl
end
end Gd
end
section
set_option Elab.async false
set_option maxRecDepth 100000
set_option maxHeartbeats 2000000
set_option linter.all false
namespace Gd
open PySem PySem.Spec PyProof.Rows L2
open Vbecaj (State act withList withNum withCopies withTime bad)
theorem withList_pos {s : State} {lo hi : Nat} {most : Int} {l : List Int} {k : List Nat → Vbecaj.Out} (h : inL (lo : Int) (hi : Int) 0 most l = true) : withList s lo hi most l k = k (l.map Int.toNat) := by
  unfold inL inR at h
  rw [Bool.and_eq_true] at h
  have h1 := of_decide_eq_true h.1
  unfold withList
  rw [if_pos ⟨⟨by omega, by omega⟩, h.2⟩]
theorem withList_neg {s : State} {lo hi : Nat} {most : Int} {l : List Int} {k : List Nat → Vbecaj.Out} (h : inL (lo : Int) (hi : Int) 0 most l = false) : withList s lo hi most l k = (s, [-4]) := by
  unfold withList
  rw [if_neg]
  · rfl
  · rintro ⟨h1, h2⟩
    have : inL (lo : Int) (hi : Int) 0 most l = true := by
      unfold inL inR
      rw [h2, decide_eq_true (by omega)]; rfl
    rw [this] at h; cases h
theorem withNum_pos {s : State} {n lo hi : Int} {k : Nat → Vbecaj.Out} (h : lo ≤ n ∧ n ≤ hi) : withNum s n lo hi k = k n.toNat := by
  unfold withNum; rw [if_pos h]
theorem withNum_neg {s : State} {n lo hi : Int} {k : Nat → Vbecaj.Out} (h : ¬ (lo ≤ n ∧ n ≤ hi)) : withNum s n lo hi k = (s, [-3]) := by
  unfold withNum; rw [if_neg h]; rfl
theorem withCopies_fm {s : State} (f : Fm s) {k : Nat → Vbecaj.Out} : withCopies s k = k s.size := by
  unfold withCopies; rw [if_neg (by have := f.lo; omega)]
theorem inL_mem {sh lg hi : Int} {l : List Int} (h : inL sh lg 0 hi l = true) : (sh ≤ (l.length : Int) ∧ (l.length : Int) ≤ lg) ∧ ∀ x ∈ l, 0 ≤ x ∧ x ≤ hi := by
  unfold inL inR at h
  rw [Bool.and_eq_true] at h
  exact ⟨of_decide_eq_true h.1, fun x hx => of_decide_eq_true (List.all_eq_true.mp h.2 x hx)⟩
def HK (C : Addr) (H : Hp) (p a1 a2 : Addr) (F : List Addr) (s : State) (call : Vbecaj.Call) (Q : VK) : Prop :=
  ∀ H' r b1 b2 F', Pop C H' p b1 b2 F' (act s call).1 → (∀ b ∈ F', b ∈ F ∨ H b = none) → (b1 = a1 ∨ H b1 = none) → (b2 = a2 ∨ H b2 = none) → H r = none → H' r = some (.lst (iv (act s call).2)) → (∀ b o, H b = some o → b ≠ p → b ≠ a1 → b ≠ a2 → H' b = some o) → Q (.ref r) H'
theorem HK.same {C : Addr} {H H' : Hp} {p a1 a2 r : Addr} {F : List Addr} {s : State} {call : Vbecaj.Call} {Q : VK} {ans : List Int} (k : HK C H p a1 a2 F s call Q) (hP : Pop C H p a1 a2 F s) (e : act s call = (s, ans)) (sm : Same H H') (nr : H r = none) (hr : H' r = some (.lst (iv ans))) : Q (.ref r) H' := by
  refine k H' r a1 a2 F ?_ (fun _ h => .inl h) (.inl rfl) (.inl rfl) nr ?_ fun b o e' _ _ _ => sm b o e'
  · rw [e]; exact hP.keep sm
  · rw [e]; exact hr
theorem HK.new {C : Addr} {H G : Hp} {p a1 a2 r : Addr} {F : List Addr} {s : State} {call : Vbecaj.Call} {Q : VK} {ans : List Int} (k : HK C H p a1 a2 F s call Q) (hP : Pop C H p a1 a2 F s) (e : act s call = (s, ans)) (sm : Same H G) (nr : G r = none) : Q (.ref r) (upd G r (.lst (iv ans))) :=
  k.same hP e (fun b o e' => by rw [upd_ne (ne_of_none (sm _ _ e') nr)]; exact sm _ _ e') (sm.free nr) upd_same
def spHand (C : Addr) (shp : List Int → List (List Int) → Vbecaj.Call → Prop) (cop : Bool) : Sp := fun vs H Q _ => ∃ p w ls a1 a2 las F, ∃ (s : State) (ws : List Int) (lss : List (List Int)) (call : Vbecaj.Call),
  vs = [.ref p, .ref w, .ref ls] ∧ Pop C H p a1 a2 F s ∧ (cop = true → Fm s) ∧ H w = some (.lst (iv ws)) ∧ VL H ls las (lss.map iv) ∧ shp ws lss call ∧ HK C H p a1 a2 F s call Q
theorem spHand_len {C : Addr} {shp : List Int → List (List Int) → Vbecaj.Call → Prop} {cop : Bool} : ∀ vs H Q E, spHand C shp cop vs H Q E → vs.length = (["population", "wholes", "lists"] : List Str).length := by
  rintro vs H Q E ⟨p, w, ls, a1, a2, las, F', s, ws, lss, call, rfl, _⟩
  rfl
structure Ks (mg : Str → Option Value) : Prop where
  NO_SUCH_CALL : Kst mg "NO_SUCH_CALL" (-100)
  NO_COPIES : Kst mg "NO_COPIES" (-1)
  NUMBER_OUT_OF_RANGE : Kst mg "NUMBER_OUT_OF_RANGE" (-3)
  WRONG_LIST : Kst mg "WRONG_LIST" (-4)
  TOO_MANY : Kst mg "TOO_MANY" (-5)
  NOTHING_TO_UNDO : Kst mg "NOTHING_TO_UNDO" (-6)
  LAST_GENERATION : Kst mg "LAST_GENERATION" (-8)
  MOST_GENERATIONS : Kst mg "MOST_GENERATIONS" 20
  MOST_RUNS : Kst mg "MOST_RUNS" 1000000000000000000
  MOST_COPIES : Kst mg "MOST_COPIES" 15
  HIGHEST_KIND : Kst mg "HIGHEST_KIND" 9
  HIGHEST_GENERATION : Kst mg "HIGHEST_GENERATION" 100
  FOUND : Kst mg "FOUND" 0
  len : mg "len" = none
  list : mg "list" = none
  set : mg "set" = none
  range : mg "range" = none
structure Fns (P : Program) (w : World) (K : PySem.W.Frag) (mg : Str → Option Value) (base : Heap) (C : Addr) : Prop where
  T : PCls K C
  has : HasM P w K mg base 1 C "has_copies" ["self"] (spHas C)
  gen : HasM P w K mg base 1 C "generation" ["self"] (spGen C)
  size : HasM P w K mg base 1 C "size" ["self"] (spSize C)
  newest : HasM P w K mg base 1 C "newest_kinds" ["self"] (spNewest C)
  begin_ : HasM P w K mg base 1 C "begin" ["self", "kinds"] (spBegin C)
  turn : HasM P w K mg base 1 C "turn" ["self", "draws"] (spTurn C)
  undo : HasM P w K mg base 1 C "undo" ["self"] (spUndo C)
  within : Has P w K mg base 1 "is_within" ["number", "low", "high"] spWithin
  listWithin : Has P w K mg base 3 "is_list_within" ["members", "shortest", "longest", "low", "high"] (spListWithin K)
  ancestors : Has P w K mg base 3 "ancestors_of" ["copies", "draw_rows", "t"] (spAncestors K)
  common : Has P w K mg base 3 "common_ancestor" ["copies", "draw_rows"] (spCommon K)
theorem no_has (a1 a2 : Addr) : (pf a1 a2).lookup ("has_copies" : Str) = none := pf_no _ _ (by decide +kernel) (by decide +kernel)
theorem no_gen (a1 a2 : Addr) : (pf a1 a2).lookup ("generation" : Str) = none := pf_no _ _ (by decide +kernel) (by decide +kernel)
theorem no_size (a1 a2 : Addr) : (pf a1 a2).lookup ("size" : Str) = none := pf_no _ _ (by decide +kernel) (by decide +kernel)
theorem no_newest (a1 a2 : Addr) : (pf a1 a2).lookup ("newest_kinds" : Str) = none := pf_no _ _ (by decide +kernel) (by decide +kernel)
theorem no_begin (a1 a2 : Addr) : (pf a1 a2).lookup ("begin" : Str) = none := pf_no _ _ (by decide +kernel) (by decide +kernel)
theorem no_turn (a1 a2 : Addr) : (pf a1 a2).lookup ("turn" : Str) = none := pf_no _ _ (by decide +kernel) (by decide +kernel)
theorem no_undo (a1 a2 : Addr) : (pf a1 a2).lookup ("undo" : Str) = none := pf_no _ _ (by decide +kernel) (by decide +kernel)
theorem one_line : 1 ≤ sizeLine := by rw [sizeLine_eq]; decide
abbrev hps : List Str := ["population", "wholes", "lists"]
section
variable {P : Program} {w : World} {K : PySem.W.Frag} {mg : Str → Option Value} {base : Heap} {C : Addr}
def shFound : List Int → List (List Int) → Vbecaj.Call → Prop := fun ws lss c => ∃ k, ws = [] ∧ lss = [k] ∧ c = .found k
theorem ok_answer_found (F : Fn K mg "answer_found" "answer_found" s_answer_found hps) (G : Fns P w K mg base C) (N : Ks mg) : Has P w K mg base 4 "answer_found" hps (spHand C shFound false) := by
  refine F.has (k := 3) sc_answer_found spHand_len (fun f cdv A outer s0 H vs Q E hr h => ?_)
  obtain ⟨p, w, ls, a1, a2, las, F', s, ws, lss, call, rfl, hP, _, hw, hV, ⟨l, rfl, rfl, rfl⟩, k⟩ := h
  have hr1 : Room 1 _ := hr.mono (by decide)
  obtain ⟨b, hb, hbb⟩ := hV.get (i := 0) (xs := iv l) rfl
  obtain ⟨dx, hp⟩ := hP.obj
  refine ⟨_, pss_cons (ps_set (i := 3) sc_answer_found.nd rfl (Or.inl rfl) (pe_ix ix_list (pv 2) pe_int (fun _ _ => rfl)))
    (pss_cons (ps_if (pt_not (pt_val (pe_fn G.listWithin hr rfl (pa_cons (pv 3) (pa_cons pe_int (pa_cons (pe_kst N.MOST_COPIES rfl) (pa_cons pe_int (pa_cons (pe_kst N.HIGHEST_KIND rfl) pa_nil)))))))) (pss_one (ps_ret (pe_lst (pa_cons (pe_kst N.WRONG_LIST rfl) pa_nil)))) pss_nil)
    (pss_cons (ps_expr (pe_mt G.begin_ (pv 0) G.T.cl hr1 (pa_cons (pv 3) pa_nil)))
    (pss_one (ps_ret (pe_lst (pa_cons pe_int pa_nil)))))), ?_⟩
  refine ⟨_, rfl, ls, _, _, _, rfl, rfl, SqL.of hV.at_, atI_nat (j := 0) (hV.ref hb), _, rfl, b, l, 1, 15, 0, 9, rfl, SqL.of hbb, _, rfl, ?_⟩
  cases hin : inL 1 15 0 9 l with
  | false =>
    refine iteT ⟨one_line, fun r nr => ?_⟩
    exact k.new (ans := [-4]) hP (by unfold act; exact withList_neg (lo := 1) (hi := 15) hin) (Same.refl H) nr
  | true =>
    obtain ⟨⟨h1, h2⟩, h3⟩ := inL_mem hin
    have en : nv (l.map Int.toNat) = iv l := nv_toNat fun x hx => (h3 x hx).1
    refine iteF ⟨_, rfl, p, dx, _, rfl, hp, no_begin _ _, _, rfl, p, b, a1, a2, _, s, l.map Int.toNat, rfl, hP, by rw [en]; exact hbb, ⟨?_, ?_, ?_⟩, fun H' b1 b2 F2 hP' nF n1 n2 hk => ?_⟩
    · rw [List.length_map]; omega
    · rw [List.length_map]; omega
    · intro x hx
      obtain ⟨y, hy, rfl⟩ := List.mem_map.mp hx
      have := h3 y hy
      omega
    · refine ⟨one_line, fun r nr => ?_⟩
      have ea : act s (.found l) = ({ kinds := l.map Int.toNat, turns := [] }, [0]) := by unfold act; exact withList_pos (lo := 1) (hi := 15) hin
      have fr : H r = none := by
        cases e : H r with
        | none => rfl
        | some o =>
          by_cases hrp : r = p
          · subst hrp
            obtain ⟨dx', hp'⟩ := hP'.obj
            rw [hp'] at nr; cases nr
          · rw [hk r o e hrp] at nr; cases nr
      refine k _ r b1 b2 F2 ?_ (fun b' h => .inr (nF b' h)) (.inr n1) (.inr n2) fr ?_ fun b' o e h _ _ => ?_
      · rw [ea]; exact hP'.keep fun b' o e => by rw [upd_ne (ne_of_none e nr)]; exact e
      · rw [ea]; exact upd_same
      · rw [upd_ne (ne_of_none (hk b' o e h) nr)]; exact hk b' o e h
def shNow : List Int → List (List Int) → Vbecaj.Call → Prop := fun ws lss c => ws = [] ∧ lss = [] ∧ c = .now
theorem ok_answer_now (F : Fn K mg "answer_now" "answer_now" s_answer_now hps) (G : Fns P w K mg base C) : Has P w K mg base 4 "answer_now" hps (spHand C shNow true) := by
  refine F.has (k := 3) sc_answer_now spHand_len (fun f cdv A outer s0 H vs Q E hr h => ?_)
  obtain ⟨p, w, ls, a1, a2, las, F', s, ws, lss, call, rfl, hP, fm, hw, hV, ⟨rfl, rfl, rfl⟩, k⟩ := h
  have fm := fm rfl
  have hr1 : Room 1 _ := hr.mono (by decide)
  obtain ⟨dx, hp⟩ := hP.obj
  have hsl : sizeLine = 16777216 := sizeLine_eq
  have hhi := fm.hi
  refine ⟨_, pss_one (ps_ret (pe_op op_cat (pe_lst (pa_cons (pe_mt0 G.gen (pv 0) G.T.cl hr1) (pa_cons (pe_mt0 G.size (pv 0) G.T.cl hr1) pa_nil))) (pe_mt0 G.newest (pv 0) G.T.cl hr1))), ?_⟩
  refine ⟨_, rfl, p, dx, _, rfl, hp, no_gen _ _, p, a1, a2, _, s, rfl, hP, _, rfl, p, dx, _, rfl, hp, no_size _ _, p, a1, a2, _, s, rfl, hP, fm, (by show 2 ≤ sizeLine; omega), fun q1 n1 => ?_⟩
  generalize hG : upd H q1 _ = G1
  have s1 : Same H G1 := fun b o e => by rw [← hG, upd_ne (ne_of_none e n1)]; exact e
  have g1 : G1 q1 = some (.lst [.int (s.generation : Int), .int (s.size : Int)]) := by rw [← hG]; exact upd_same
  clear hG
  refine ⟨_, rfl, p, dx, _, rfl, s1 _ _ hp, no_newest _ _, p, a1, a2, _, s, rfl, hP.keep s1, fm, fun q2 n2 => ?_⟩
  have g12 : upd G1 q2 (.lst (nv s.now)) q1 = some (.lst [.int (s.generation : Int), .int (s.size : Int)]) := by rw [upd_ne (ne_of_none g1 n2)]; exact g1
  refine ⟨q1, q2, _, _, rfl, rfl, g12, upd_same, ?_, fun r nr => ?_⟩
  · rw [nv_length, now_length]; show 2 + s.size ≤ sizeLine; omega
  · have s2 : Same H (upd G1 q2 (.lst (nv s.now))) := fun b o e => by rw [upd_ne (ne_of_none (s1 _ _ e) n2)]; exact s1 _ _ e
    have ea : act s .now = (s, [(s.generation : Int), (s.size : Int)] ++ Vbecaj.ints s.now) := by unfold act; exact withCopies_fm fm
    have el : [V.int (s.generation : Int), V.int (s.size : Int)] ++ nv s.now = iv ([(s.generation : Int), (s.size : Int)] ++ Vbecaj.ints s.now) := by
      rw [nv_iv]; rfl
    rw [el]
    exact k.new hP ea s2 nr
def shTurn : List Int → List (List Int) → Vbecaj.Call → Prop := fun ws lss c => ∃ k, ws = [] ∧ lss = [k] ∧ c = .turn k
theorem ok_answer_turn (F : Fn K mg "answer_turn" "answer_turn" s_answer_turn hps) (G : Fns P w K mg base C) (N : Ks mg) : Has P w K mg base 4 "answer_turn" hps (spHand C shTurn true) := by
  refine F.has (k := 3) sc_answer_turn spHand_len (fun f cdv A outer s0 H vs Q E hr h => ?_)
  obtain ⟨p, w, ls, a1, a2, las, F', s, ws, lss, call, rfl, hP, fm, hw, hV, ⟨l, rfl, rfl, rfl⟩, k⟩ := h
  have fm := fm rfl
  have hr1 : Room 1 _ := hr.mono (by decide)
  obtain ⟨b, hb, hbb⟩ := hV.get (i := 0) (xs := iv l) rfl
  obtain ⟨dx, hp⟩ := hP.obj
  have hlo := fm.lo
  refine ⟨_, pss_cons (ps_set (i := 3) sc_answer_turn.nd rfl (Or.inl rfl) (pe_ix ix_list (pv 2) pe_int (fun _ _ => rfl)))
    (pss_cons (ps_set (i := 4) sc_answer_turn.nd rfl (Or.inl rfl) (pe_mt0 G.size (pv 0) G.T.cl hr1))
    (pss_cons (ps_if (pt_not (pt_val (pe_fn G.listWithin hr rfl (pa_cons (pv 3) (pa_cons (pv 4) (pa_cons (pv 4) (pa_cons pe_int (pa_cons (pe_op op_sub (pv 4) pe_int) pa_nil)))))))) (pss_one (ps_ret (pe_lst (pa_cons (pe_kst N.WRONG_LIST rfl) pa_nil)))) pss_nil)
    (pss_cons (ps_if (pt_cmpR op_eq (pe_mt0 G.gen (pv 0) G.T.cl hr1) (pe_kst N.HIGHEST_GENERATION rfl) (nomark _)) (pss_one (ps_ret (pe_lst (pa_cons (pe_kst N.LAST_GENERATION rfl) pa_nil)))) pss_nil)
    (pss_cons (ps_expr (pe_mt G.turn (pv 0) G.T.cl hr1 (pa_cons (pv 3) pa_nil)))
    (pss_one (ps_ret (pe_lst (pa_cons (pe_mt0 G.gen (pv 0) G.T.cl hr1) pa_nil)))))))), ?_⟩
  refine ⟨_, rfl, ls, _, _, _, rfl, rfl, SqL.of hV.at_, atI_nat (j := 0) (hV.ref hb), _, rfl, p, dx, _, rfl, hp, no_size _ _, p, a1, a2, _, s, rfl, hP, fm, ?_⟩
  refine ⟨_, rfl, _, rfl, _, rfl, _, rfl, _, _, rfl, rfl, b, l, _, _, 0, _, rfl, SqL.of hbb, _, rfl, ?_⟩
  have ea : act s (.turn l) = withList s s.size s.size ((s.size : Int) - 1) l fun l => if Vbecaj.TURNS ≤ s.generation then bad s (-8) else ({ s with turns := l :: s.turns }, [((s.generation + 1 : Nat) : Int)]) := by unfold act; exact withCopies_fm fm
  cases hin : inL (s.size : Int) (s.size : Int) 0 ((s.size : Int) - 1) l with
  | false =>
    refine iteT ⟨one_line, fun r nr => ?_⟩
    exact k.new (ans := [-4]) hP (ea.trans (withList_neg hin)) (Same.refl H) nr
  | true =>
    rw [withList_pos hin] at ea
    obtain ⟨⟨h1, h2⟩, h3⟩ := inL_mem hin
    refine iteF ⟨_, rfl, p, dx, _, rfl, hp, no_gen _ _, p, a1, a2, _, s, rfl, hP, rfl, _, rfl, ?_⟩
    have hgen := fm.gen
    have hg : s.generation = s.turns.length := rfl
    refine ite2 (fun he => ?_) (fun he => ?_)
    · have he := V.int.inj (of_decide_eq_true he)
      rw [if_pos (show Vbecaj.TURNS ≤ s.generation by show 100 ≤ s.generation; omega)] at ea
      exact ⟨one_line, fun r nr => k.new (ans := [-8]) hP ea (Same.refl H) nr⟩
    · have hlt : s.turns.length < 100 := by
        refine Nat.lt_of_le_of_ne hgen fun z => he (decide_eq_true ?_)
        rw [hg, z]; rfl
      rw [if_neg (show ¬ Vbecaj.TURNS ≤ s.generation by show ¬ 100 ≤ s.generation; omega)] at ea
      have en : nv (l.map Int.toNat) = iv l := nv_toNat fun x hx => (h3 x hx).1
      refine ⟨_, rfl, p, dx, _, rfl, hp, no_turn _ _, _, rfl, p, b, a1, a2, _, s, l.map Int.toNat, rfl, hP, fm, by rw [en]; exact hbb, ⟨?_, ?_, hlt⟩, fun H' F2 hP' nF hk => ?_⟩
      · rw [List.length_map]; omega
      · intro x hx
        obtain ⟨y, hy, rfl⟩ := List.mem_map.mp hx
        have := h3 y hy
        omega
      · obtain ⟨dx', hp'⟩ := hP'.obj
        refine ⟨_, rfl, p, dx', _, rfl, hp', no_gen _ _, p, a1, a2, _, _, rfl, hP', one_line, fun r nr => ?_⟩
        have hP2 := hP'
        obtain ⟨⟨_, _⟩, ⟨as1, as2, v1, v2, _⟩, _⟩ := hP2
        have fr : H r = none := by
          cases e : H r with
          | none => rfl
          | some o =>
            by_cases hr1 : r = a1
            · subst hr1; rw [v1.at_] at nr; cases nr
            · by_cases hr2 : r = a2
              · subst hr2; rw [v2.at_] at nr; cases nr
              · rw [hk r o e hr1 hr2] at nr; cases nr
        refine k _ r a1 a2 F2 ?_ nF (.inl rfl) (.inl rfl) fr ?_ fun b' o e _ h1 h2 => ?_
        · rw [ea]; exact hP'.keep fun b' o e => by rw [upd_ne (ne_of_none e nr)]; exact e
        · rw [ea]; exact upd_same
        · rw [upd_ne (ne_of_none (hk b' o e h1 h2) nr)]; exact hk b' o e h1 h2
def shUndo : List Int → List (List Int) → Vbecaj.Call → Prop := fun ws lss c => ws = [] ∧ lss = [] ∧ c = .undo
theorem ok_answer_undo (F : Fn K mg "answer_undo" "answer_undo" s_answer_undo hps) (G : Fns P w K mg base C) (N : Ks mg) : Has P w K mg base 4 "answer_undo" hps (spHand C shUndo true) := by
  refine F.has (k := 3) sc_answer_undo spHand_len (fun f cdv A outer s0 H vs Q E hr h => ?_)
  obtain ⟨p, w, ls, a1, a2, las, F', s, ws, lss, call, rfl, hP, fm, hw, hV, ⟨rfl, rfl, rfl⟩, k⟩ := h
  have fm := fm rfl
  have hr1 : Room 1 _ := hr.mono (by decide)
  obtain ⟨dx, hp⟩ := hP.obj
  refine ⟨_, pss_cons (ps_if (pt_cmpR op_eq (pe_mt0 G.gen (pv 0) G.T.cl hr1) pe_int (nomark _)) (pss_one (ps_ret (pe_lst (pa_cons (pe_kst N.NOTHING_TO_UNDO rfl) pa_nil)))) pss_nil)
    (pss_cons (ps_expr (pe_mt0 G.undo (pv 0) G.T.cl hr1))
    (pss_one (ps_ret (pe_lst (pa_cons (pe_mt0 G.gen (pv 0) G.T.cl hr1) pa_nil))))), ?_⟩
  refine ⟨_, rfl, p, dx, _, rfl, hp, no_gen _ _, p, a1, a2, _, s, rfl, hP, rfl, _, rfl, ?_⟩
  have ea : act s .undo = (match s.turns with | [] => bad s (-6) | _ :: r => ({ s with turns := r }, [(r.length : Int)])) := by unfold act; exact withCopies_fm fm
  have hg : s.generation = s.turns.length := rfl
  cases ht : s.turns with
  | nil =>
    rw [ht] at ea
    have e0 : V.int (s.generation : Int) = V.int 0 := by rw [hg, ht]; rfl
    rw [decide_eq_true e0]
    exact iteT ⟨one_line, fun r nr => k.new (ans := [-6]) hP ea (Same.refl H) nr⟩
  | cons l r =>
    rw [ht] at ea
    have e0 : ¬ V.int (s.generation : Int) = V.int 0 := fun z => by
      have z := V.int.inj z
      rw [hg, ht, List.length_cons] at z
      omega
    rw [decide_eq_false e0]
    refine iteF ⟨_, rfl, p, dx, _, rfl, hp, no_undo _ _, p, a1, a2, _, s, l, r, rfl, hP, fm, ht, fun H' hP' hk => ?_⟩
    obtain ⟨dx', hp'⟩ := hP'.obj
    refine ⟨_, rfl, p, dx', _, rfl, hp', no_gen _ _, p, a1, a2, _, _, rfl, hP', one_line, fun u nu => ?_⟩
    have hP2 := hP'
    obtain ⟨⟨_, _⟩, ⟨as1, as2, v1, v2, _⟩, _⟩ := hP2
    have fr : H u = none := by
      cases e : H u with
      | none => rfl
      | some o =>
        by_cases hr1 : u = a1
        · subst hr1; rw [v1.at_] at nu; cases nu
        · by_cases hr2 : u = a2
          · subst hr2; rw [v2.at_] at nu; cases nu
          · rw [hk u o e hr1 hr2] at nu; cases nu
    refine k _ u a1 a2 _ ?_ (fun _ h => .inl h) (.inl rfl) (.inl rfl) fr ?_ fun b' o e _ h1 h2 => ?_
    · rw [ea]; exact hP'.keep fun b' o e => by rw [upd_ne (ne_of_none e nu)]; exact e
    · rw [ea]; exact upd_same
    · rw [upd_ne (ne_of_none (hk b' o e h1 h2) nu)]; exact hk b' o e h1 h2
def shNumber : List Int → List (List Int) → Vbecaj.Call → Prop := fun ws lss c => ∃ k, ws = [k] ∧ lss = [] ∧ c = .number k
theorem count_cast (l : List Nat) {k : Int} (h : 0 ≤ k) : (l.map fun (x : Nat) => (x : Int)).count k = l.countP fun x => x == k.toNat := by
  induction l with
  | nil => rfl
  | cons x l ih =>
    rw [List.map_cons, List.count_cons, List.countP_cons, ih]
    by_cases e : x = k.toNat
    · subst e
      have : ((k.toNat : Nat) : Int) = k := Int.toNat_of_nonneg h
      simp [this]
    · have : ¬ (x : Int) = k := fun z => e (by omega)
      simp [e, this]
theorem ok_answer_number (F : Fn K mg "answer_number" "answer_number" s_answer_number hps) (G : Fns P w K mg base C) (N : Ks mg) : Has P w K mg base 4 "answer_number" hps (spHand C shNumber true) := by
  refine F.has (k := 3) sc_answer_number spHand_len (fun f cdv A outer s0 H vs Q E hr h => ?_)
  obtain ⟨p, w, ls, a1, a2, las, F', s, ws, lss, call, rfl, hP, fm, hw, hV, ⟨kd, rfl, rfl, rfl⟩, k⟩ := h
  have fm := fm rfl
  have hr1 : Room 1 _ := hr.mono (by decide)
  obtain ⟨dx, hp⟩ := hP.obj
  refine ⟨_, pss_cons (ps_set (i := 3) sc_answer_number.nd rfl (Or.inl rfl) (pe_ix ix_list (pv 1) pe_int (fun _ _ => rfl)))
    (pss_cons (ps_if (pt_not (pt_val (pe_fn G.within hr1 rfl (pa_cons (pv 3) (pa_cons pe_int (pa_cons (pe_kst N.HIGHEST_KIND rfl) pa_nil)))))) (pss_one (ps_ret (pe_lst (pa_cons (pe_kst N.NUMBER_OUT_OF_RANGE rfl) pa_nil)))) pss_nil)
    (pss_one (ps_ret (pe_lst (pa_cons (pe_bm PySem.F.plainAttrs_list PySem.F.slot_list_count PySem.F.type_list_count mt_countI (pe_mt0 G.newest (pv 0) G.T.cl hr1) (pa_cons (pv 3) pa_nil)) pa_nil))))), ?_⟩
  refine ⟨_, rfl, w, _, _, _, rfl, rfl, SqL.of hw, atI_nat (j := 0) rfl, _, rfl, kd, 0, 9, rfl, _, rfl, ?_⟩
  have ea : act s (.number kd) = withNum s kd 0 9 fun k => (s, [((s.now.countP fun x => x == k : Nat) : Int)]) := by unfold act; exact withCopies_fm fm
  by_cases h1 : 0 ≤ kd ∧ kd ≤ 9
  · rw [decide_eq_true h1]
    rw [withNum_pos h1] at ea
    refine iteF ⟨_, rfl, p, dx, _, rfl, hp, no_newest _ _, p, a1, a2, _, s, rfl, hP, fm, fun q nq => ⟨.inl ⟨rfl, _, SqL.of upd_same⟩, _, rfl, q, _, kd, rfl, rfl, SqL.of (by rw [upd_same, nv_iv]; rfl), one_line, fun r nr => ?_⟩⟩
    rw [count_cast _ h1.1]
    exact k.new (ans := [_]) hP ea (fun b o e => by rw [upd_ne (ne_of_none e nq)]; exact e) nr
  · rw [decide_eq_false h1]
    exact iteT ⟨one_line, fun r nr => k.new (ans := [-3]) hP (ea.trans (withNum_neg h1)) (Same.refl H) nr⟩
end
end Gd
end
section
set_option Elab.async false
set_option maxRecDepth 100000
set_option maxHeartbeats 2000000
set_option linter.all false
namespace Gd
open PySem PySem.Spec PyProof.Rows L2
open Vbecaj (State act withList withNum withCopies withTime bad)
theorem nv_singleton (x : Nat) : nv [x] = [V.int (x : Int)] := rfl
section
variable {P : Program} {w : World} {K : PySem.W.Frag} {mg : Str → Option Value} {base : Heap} {C : Addr}
def shBack : List Int → List (List Int) → Vbecaj.Call → Prop := fun ws lss c => ∃ t m, ws = [t, m] ∧ lss = [] ∧ c = .back t m
theorem ok_answer_back (F : Fn K mg "answer_back" "answer_back" s_answer_back hps) (G : Fns P w K mg base C) (N : Ks mg) : Has P w K mg base 4 "answer_back" hps (spHand C shBack true) := by
  refine F.has (k := 3) sc_answer_back spHand_len (fun f cdv A outer s0 H vs Q E hr h => ?_)
  obtain ⟨p, w, ls, a1, a2, las, F', s, ws, lss, call, rfl, hP, fm, hw, hV, ⟨t, m, rfl, rfl, rfl⟩, k⟩ := h
  have fm := fm rfl
  have hr1 : Room 1 _ := hr.mono (by decide)
  obtain ⟨dx, hp⟩ := hP.obj
  refine ⟨_, pss_cons (ps_set (i := 3) sc_answer_back.nd rfl (Or.inl rfl) (pe_ix ix_list (pv 1) pe_int (fun _ _ => rfl)))
    (pss_cons (ps_set (i := 4) sc_answer_back.nd rfl (Or.inl rfl) (pe_ix ix_list (pv 1) pe_int (fun _ _ => rfl)))
    (pss_cons (ps_if (pt_not (pt_val (pe_fn G.within hr1 rfl (pa_cons (pv 3) (pa_cons pe_int (pa_cons (pe_mt0 G.gen (pv 0) G.T.cl hr1) pa_nil)))))) (pss_one (ps_ret (pe_lst (pa_cons (pe_kst N.NUMBER_OUT_OF_RANGE rfl) pa_nil)))) pss_nil)
    (pss_cons (ps_if (pt_not (pt_val (pe_fn G.within hr1 rfl (pa_cons (pv 4) (pa_cons pe_int (pa_cons (pe_op op_sub (pe_mt0 G.size (pv 0) G.T.cl hr1) pe_int) pa_nil)))))) (pss_one (ps_ret (pe_lst (pa_cons (pe_kst N.NUMBER_OUT_OF_RANGE rfl) pa_nil)))) pss_nil)
    (pss_one (ps_ret (pe_fn G.ancestors hr rfl (pa_cons (pe_lst (pa_cons (pv 4) pa_nil)) (pa_cons (pe_fld (pv 0) rfl) (pa_cons (pv 3) pa_nil))))))))), ?_⟩
  refine ⟨_, rfl, w, _, _, _, rfl, rfl, SqL.of hw, atI_nat (j := 0) rfl, _, rfl, w, _, _, _, rfl, rfl, SqL.of hw, atI_nat (j := 1) rfl, ?_⟩
  refine ⟨_, rfl, _, rfl, p, dx, _, rfl, hp, no_gen _ _, p, a1, a2, _, s, rfl, hP, t, 0, _, rfl, _, rfl, ?_⟩
  have ea : act s (.back t m) = withNum s t 0 (s.generation : Int) fun t => withNum s m 0 ((s.size : Int) - 1) fun c => (s, [(s.back t c : Int)]) := by unfold act; exact withCopies_fm fm
  by_cases h1 : 0 ≤ t ∧ t ≤ (s.generation : Int)
  · rw [decide_eq_true h1]
    rw [withNum_pos h1] at ea
    refine iteF ⟨_, rfl, _, rfl, p, dx, _, rfl, hp, no_size _ _, p, a1, a2, _, s, rfl, hP, fm, _, _, rfl, rfl, m, 0, _, rfl, _, rfl, ?_⟩
    by_cases h2 : 0 ≤ m ∧ m ≤ (s.size : Int) - 1
    · rw [decide_eq_true h2]
      rw [withNum_pos h2] at ea
      refine iteF ⟨_, rfl, one_line, fun q nq => ?_⟩
      have s1 : Same H (upd H q (.lst [V.int m])) := fun b o e => by rw [upd_ne (ne_of_none e nq)]; exact e
      obtain ⟨_, ⟨as1, as2, v1, v2, _⟩, _⟩ := hP
      have em : m = ((m.toNat : Nat) : Int) := (Int.toNat_of_nonneg h2.1).symm
      have et : t = ((t.toNat : Nat) : Int) := (Int.toNat_of_nonneg h1.1).symm
      refine ⟨_, rfl, p, C, dx, _, _, rfl, s1 _ _ hp, G.T.cl, G.T.nD, pf_draw _ _, _, rfl, q, a2, as2, s, [m.toNat], t.toNat, by rw [← et]; rfl, SqL.of (by rw [upd_same, nv_singleton, ← em]), v2.same s1, fm, (by show 1 ≤ 15; decide), ?_, by omega, fun H' r sm nr hr' => ?_⟩
      · intro x hx
        rw [List.mem_singleton.mp hx]; omega
      · exact k.same (ans := [(s.back t.toNat m.toNat : Int)]) ⟨⟨dx, hp⟩, ⟨as1, as2, v1, v2, by assumption⟩, .inr fm⟩ ea (s1.trans sm) (s1.free nr) hr'
    · rw [decide_eq_false h2]
      exact iteT ⟨one_line, fun r nr => k.new (ans := [-3]) hP (ea.trans (withNum_neg h2)) (Same.refl H) nr⟩
  · rw [decide_eq_false h1]
    exact iteT ⟨one_line, fun r nr => k.new (ans := [-3]) hP (ea.trans (withNum_neg h1)) (Same.refl H) nr⟩
def shCommon : List Int → List (List Int) → Vbecaj.Call → Prop := fun ws lss c => ∃ k, ws = [] ∧ lss = [k] ∧ c = .common k
theorem ok_answer_common (F : Fn K mg "answer_common" "answer_common" s_answer_common hps) (G : Fns P w K mg base C) (N : Ks mg) : Has P w K mg base 4 "answer_common" hps (spHand C shCommon true) := by
  refine F.has (k := 3) sc_answer_common spHand_len (fun f cdv A outer s0 H vs Q E hr h => ?_)
  obtain ⟨p, w, ls, a1, a2, las, F', s, ws, lss, call, rfl, hP, fm, hw, hV, ⟨l, rfl, rfl, rfl⟩, k⟩ := h
  have fm := fm rfl
  have hr1 : Room 1 _ := hr.mono (by decide)
  obtain ⟨b, hb, hbb⟩ := hV.get (i := 0) (xs := iv l) rfl
  obtain ⟨dx, hp⟩ := hP.obj
  have hlo := fm.lo
  have hhi := fm.hi
  refine ⟨_, pss_cons (ps_set (i := 3) sc_answer_common.nd rfl (Or.inl rfl) (pe_ix ix_list (pv 2) pe_int (fun _ _ => rfl)))
    (pss_cons (ps_set (i := 4) sc_answer_common.nd rfl (Or.inl rfl) (pe_mt0 G.size (pv 0) G.T.cl hr1))
    (pss_cons (ps_if (pt_not (pt_val (pe_fn G.listWithin hr rfl (pa_cons (pv 3) (pa_cons pe_int (pa_cons (pv 4) (pa_cons pe_int (pa_cons (pe_op op_sub (pv 4) pe_int) pa_nil)))))))) (pss_one (ps_ret (pe_lst (pa_cons (pe_kst N.WRONG_LIST rfl) pa_nil)))) pss_nil)
    (pss_cons (ps_set (i := 5) sc_answer_common.nd rfl (Or.inl rfl) (pe_fn G.common hr rfl (pa_cons (pv 3) (pa_cons (pe_fld (pv 0) rfl) pa_nil))))
    (pss_cons (ps_if (pt_cmpR op_eq (pe_callB call_len_seq (by rfl) N.len PySem.boot_len (pa_cons (pv 5) pa_nil)) pe_int (nomark _)) (pss_one (ps_ret (pe_lst (pa_cons pe_int pa_nil)))) pss_nil)
    (pss_one (ps_ret (pe_op op_cat (pe_lst (pa_cons pe_int pa_nil)) (pv 5)))))))), ?_⟩
  refine ⟨_, rfl, ls, _, _, _, rfl, rfl, SqL.of hV.at_, atI_nat (j := 0) (hV.ref hb), _, rfl, p, dx, _, rfl, hp, no_size _ _, p, a1, a2, _, s, rfl, hP, fm, ?_⟩
  refine ⟨_, rfl, _, rfl, _, rfl, _, _, rfl, rfl, b, l, 1, _, 0, _, rfl, SqL.of hbb, _, rfl, ?_⟩
  have ea : act s (.common l) = withList s 1 s.size ((s.size : Int) - 1) l fun l => match s.common l with | none => (s, [0]) | some t => (s, [1, (t : Int), (s.back t (l.headD 0) : Int)]) := by unfold act; exact withCopies_fm fm
  cases hin : inL 1 (s.size : Int) 0 ((s.size : Int) - 1) l with
  | false =>
    exact iteT ⟨one_line, fun r nr => k.new (ans := [-4]) hP (ea.trans (withList_neg hin)) (Same.refl H) nr⟩
  | true =>
    rw [withList_pos hin] at ea
    obtain ⟨⟨h1, h2⟩, h3⟩ := inL_mem hin
    have en : nv (l.map Int.toNat) = iv l := nv_toNat fun x hx => (h3 x hx).1
    have hP0 := hP
    obtain ⟨_, ⟨as1, as2, v1, v2, _⟩, _⟩ := hP0
    refine iteF ⟨_, rfl, _, rfl, p, C, dx, _, _, rfl, hp, G.T.cl, G.T.nD, pf_draw _ _, b, a2, as2, s, l.map Int.toNat, rfl, SqL.of (by rw [en]; exact hbb), v2, fm, ?_, ?_, ?_, fun H' q sm nq hq => ?_⟩
    · intro z
      rw [List.map_eq_nil_iff] at z
      rw [z, List.length_nil] at h1; omega
    · rw [List.length_map]; omega
    · intro x hx
      obtain ⟨y, hy, rfl⟩ := List.mem_map.mp hx
      have := h3 y hy
      omega
    · refine ⟨_, rfl, q, _, rfl, .inl (SqL.of hq), rfl, _, rfl, ?_⟩
      unfold commonL at hq ⊢
      cases ec : s.common (l.map Int.toNat) with
      | none =>
        rw [ec] at ea
        exact iteT ⟨one_line, fun r nr => k.new (ans := [0]) hP ea sm nr⟩
      | some t =>
        rw [ec] at ea hq
        refine iteF ⟨one_line, fun q1 n1 => ⟨_, rfl, q1, q, _, _, rfl, rfl, upd_same, (upd_ne (ne_of_none hq n1)).trans hq, ?_, fun r nr => ?_⟩⟩
        · show 1 + 2 ≤ sizeLine; rw [sizeLine_eq]; decide
        · exact k.new (ans := [1, (t : Int), (s.back t ((l.map Int.toNat).headD 0) : Int)]) hP ea (fun b o e => by rw [upd_ne (ne_of_none (sm _ _ e) n1)]; exact sm _ _ e) nr
def shLines : List Int → List (List Int) → Vbecaj.Call → Prop := fun ws lss c => ∃ t, ws = [t] ∧ lss = [] ∧ c = .lines t
theorem ok_answer_lines (F : Fn K mg "answer_lines" "answer_lines" s_answer_lines hps) (G : Fns P w K mg base C) (N : Ks mg) : Has P w K mg base 4 "answer_lines" hps (spHand C shLines true) := by
  refine F.has (k := 3) sc_answer_lines spHand_len (fun f cdv A outer s0 H vs Q E hr h => ?_)
  obtain ⟨p, w, ls, a1, a2, las, F', s, ws, lss, call, rfl, hP, fm, hw, hV, ⟨t, rfl, rfl, rfl⟩, k⟩ := h
  have fm := fm rfl
  have hr1 : Room 1 _ := hr.mono (by decide)
  obtain ⟨dx, hp⟩ := hP.obj
  have hhi := fm.hi
  refine ⟨_, pss_cons (ps_set (i := 3) sc_answer_lines.nd rfl (Or.inl rfl) (pe_ix ix_list (pv 1) pe_int (fun _ _ => rfl)))
    (pss_cons (ps_if (pt_not (pt_val (pe_fn G.within hr1 rfl (pa_cons (pv 3) (pa_cons pe_int (pa_cons (pe_mt0 G.gen (pv 0) G.T.cl hr1) pa_nil)))))) (pss_one (ps_ret (pe_lst (pa_cons (pe_kst N.NUMBER_OUT_OF_RANGE rfl) pa_nil)))) pss_nil)
    (pss_cons (ps_set (i := 4) sc_answer_lines.nd rfl (Or.inl rfl) (pe_callTy (call_listR rfl) (by rfl) N.list bt_list (pa_cons (pe_callTy call_rng1 (by rfl) N.range bt_range (pa_cons (pe_mt0 G.size (pv 0) G.T.cl hr1) pa_nil)) pa_nil)))
    (pss_cons (ps_set (i := 5) sc_answer_lines.nd rfl (Or.inl rfl) (pe_fn G.ancestors hr rfl (pa_cons (pv 4) (pa_cons (pe_fld (pv 0) rfl) (pa_cons (pv 3) pa_nil)))))
    (pss_one (ps_ret (pe_lst (pa_cons (pe_callB call_lenS (by rfl) N.len PySem.boot_len (pa_cons (pe_callTy (call_setL rfl) (by rfl) N.set bt_set (pa_cons (pv 5) pa_nil)) pa_nil)) pa_nil))))))), ?_⟩
  refine ⟨_, rfl, w, _, _, _, rfl, rfl, SqL.of hw, atI_nat (j := 0) rfl, ?_⟩
  refine ⟨_, rfl, _, rfl, p, dx, _, rfl, hp, no_gen _ _, p, a1, a2, _, s, rfl, hP, t, 0, _, rfl, _, rfl, ?_⟩
  have ea : act s (.lines t) = withNum s t 0 (s.generation : Int) fun t => (s, [((s.lines t (List.range s.size)).length : Int)]) := by unfold act; exact withCopies_fm fm
  by_cases h1 : 0 ≤ t ∧ t ≤ (s.generation : Int)
  · rw [decide_eq_true h1]
    rw [withNum_pos h1] at ea
    refine iteF ⟨_, rfl, p, dx, _, rfl, hp, no_size _ _, p, a1, a2, _, s, rfl, hP, fm, _, rfl, fun g ng => ⟨g, s.size, rfl, upd_same, by omega, fun q nq => ?_⟩⟩
    have s1 : Same H (upd H g (.rng 0 (s.size : Int))) := fun b o e => by rw [upd_ne (ne_of_none e ng)]; exact e
    generalize upd H g (.rng 0 (s.size : Int)) = H1 at s1 nq
    have s2 : Same H (upd H1 q (.lst ((List.range s.size).map fun (i : Nat) => V.int (i : Int)))) := fun b o e => by rw [upd_ne (ne_of_none (s1 _ _ e) nq)]; exact s1 _ _ e
    have g2 : upd H1 q (.lst ((List.range s.size).map fun (i : Nat) => V.int (i : Int))) q = some (.lst (nv (List.range s.size))) := upd_same
    generalize upd H1 q (.lst ((List.range s.size).map fun (i : Nat) => V.int (i : Int))) = H2 at s2 g2
    have hP0 := hP.keep s2
    obtain ⟨_, ⟨as1, as2, v1, v2, _⟩, _⟩ := hP0
    have et : t = ((t.toNat : Nat) : Int) := (Int.toNat_of_nonneg h1.1).symm
    refine ⟨_, rfl, _, rfl, p, C, dx, _, _, rfl, s2 _ _ hp, G.T.cl, G.T.nD, pf_draw _ _, _, rfl, q, a2, as2, s, List.range s.size, t.toNat, by rw [← et]; rfl, SqL.of g2, v2, fm, by rw [List.length_range]; exact hhi, fun x hx => List.mem_range.mp hx, by omega, fun H3 u sm nu hu => ?_⟩
    rw [nv_iv] at hu
    refine ⟨_, rfl, u, _, rfl, SqL.of hu, ?_, fun v nv' => ⟨v, _, _, rfl, upd_same, one_line, fun r nr => ?_⟩⟩
    · rw [List.length_map, List.length_map, List.length_range]
      show s.size + 1 < scanBound
      have : scanBound = 4096 := rfl
      omega
    · rw [set_size ((List.range s.size).map (s.back t.toNat)) rfl] at nr ⊢
      exact k.new (ans := [_]) hP ea (fun b o e => by rw [upd_ne (ne_of_none (sm _ _ (s2 _ _ e)) nv')]; exact sm _ _ (s2 _ _ e)) nr
  · rw [decide_eq_false h1]
    exact iteT ⟨one_line, fun r nr => k.new (ans := [-3]) hP (ea.trans (withNum_neg h1)) (Same.refl H) nr⟩
def spRuns : Sp := fun vs H Q _ => ∃ n t : Nat, vs = [.int (n : Int), .int (t : Int)] ∧ n ≤ 15 ∧ t ≤ 20 ∧ Q (.int (Vbecaj.all n t : Int)) H
theorem pow_le15 : ∀ n : Nat, n ≤ 15 → n ^ n < 2 ^ 64 := by decide
theorem ok_count_runs (F : Fn K mg "count_runs" "count_runs" s_count_runs ["n", "t"]) (hP : Has P w K mg base 1 "power" ["base", "exponent"] spPower) : Has P w K mg base 2 "count_runs" ["n", "t"] spRuns := by
  refine F.has (k := 1) sc_count_runs (fun vs H Q E h => ?_) (fun f cdv A outer s0 H vs Q E hr h => ?_)
  · obtain ⟨n, t, rfl, _⟩ := h
    rfl
  · obtain ⟨n, t, rfl, hn, ht, q⟩ := h
    refine ⟨_, pss_cons (ps_set (i := 2) sc_count_runs.nd rfl (Or.inl rfl) (pe_fn hP hr rfl (pa_cons (pv 0) (pa_cons (pv 0) pa_nil)))) (pss_one (ps_ret (pe_fn hP hr rfl (pa_cons (pv 2) (pa_cons (pv 1) pa_nil))))), ?_⟩
    have h1 := pow_le15 n hn
    have e1 : ((n : Int) ^ n) = ((n ^ n : Nat) : Int) := (Int.natCast_pow n n).symm
    refine ⟨_, rfl, _, rfl, n, n, rfl, ⟨by omega, by omega⟩, by omega, _, rfl, _, rfl, _, t, rfl, ⟨?_, ?_⟩, by omega, ?_⟩
    · rw [e1]; omega
    · rw [e1]; exact Int.ofNat_lt.mpr h1
    · rw [e1, ← Int.natCast_pow]; exact q
end
end Gd
end
section
set_option Elab.async false
set_option maxRecDepth 100000
set_option maxHeartbeats 2000000
set_option linter.all false
namespace Gd
open PySem PySem.Spec PyProof.Rows L2
open Vbecaj (State act)
section
variable (P : Program) (w : World) (K : PySem.W.Frag) (mg : Str → Option Value) (base : Heap) (C : Addr)
def Hands (x : Str) (lo hi : Int) : Prop :=
  ∃ a es, mg x = some (.ref a) ∧ KD K a es ∧ (∀ c, lo ≤ c → c ≤ hi → ∃ f, kAt es c = some (.ref f) ∧ Callee P w K mg base 6 hps f (spHand C (shp c) (decide (c ≠ 0)))) ∧ ∀ c, ¬ (lo ≤ c ∧ c ≤ hi) → kAt es c = none
end
def spIs (lo hi : Int) : Sp := fun vs H Q _ => ∃ c, vs = [.int c] ∧ Q (.bl (decide (lo ≤ c ∧ c ≤ hi))) H
def spDisp (C : Addr) (lo hi : Int) : Sp := fun vs H Q _ => ∃ p c w ls, vs = [.ref p, .int c, .ref w, .ref ls] ∧ lo ≤ c ∧ c ≤ hi ∧ spHand C (shp c) (decide (c ≠ 0)) [.ref p, .ref w, .ref ls] H Q E0
section
variable {P : Program} {w : World} {K : PySem.W.Frag} {mg : Str → Option Value} {base : Heap} {C : Addr}
theorem callee_of {x : Str} {k : Nat} {f : Addr} {c : Int} {sh : List Int → List (List Int) → Vbecaj.Call → Prop} {cop : Bool} (h : Has P w K mg base k x hps (spHand C sh cop)) (hk : k ≤ 6) (hm : mg x = some (.ref f)) (hc : ∀ ws lss call, shp c ws lss call → sh ws lss call) (hcop : cop = true → c ≠ 0) :
    Callee P w K mg base 6 hps f (spHand C (shp c) (decide (c ≠ 0))) := by
  obtain ⟨f', fd, hm', F, hb, kp⟩ := h
  rw [hm] at hm'
  cases hm'
  refine ⟨⟨fd, (F.mono hk).imp fun vs H Q E q => ?_, hb⟩, kp⟩
  obtain ⟨p, w, ls, a1, a2, las, F', s, ws, lss, call, e, hP, fm, hw, hV, hs, k⟩ := q
  exact ⟨p, w, ls, a1, a2, las, F', s, ws, lss, call, e, hP, fun z => fm (decide_eq_true (hcop z)), hw, hV, hc _ _ _ hs, k⟩
theorem ok_is_history_call (F : Fn K mg "is_history_call" "is_history_call" s_is_history_call ["number"]) {lo hi : Int} (D : Hands P w K mg base C "HISTORY_CALLS" lo hi) : Has P w K mg base 1 "is_history_call" ["number"] (spIs lo hi) := by
  refine F.has (k := 0) sc_is_history_call (fun vs H Q E h => ?_) (fun f cdv A outer s H vs Q E hr h => ?_)
  · obtain ⟨c, rfl, _⟩ := h
    rfl
  · obtain ⟨c, rfl, q⟩ := h
    obtain ⟨a, es, hm, hd, h1, h2⟩ := D
    refine ⟨_, pss_one (ps_ret (pe_cmp (pc_kin (pv 0) (pe_obj hm rfl)))), ?_⟩
    refine ⟨_, rfl, a, es, c, rfl, rfl, hd, ?_⟩
    by_cases hc : lo ≤ c ∧ c ≤ hi
    · obtain ⟨f, hf, _⟩ := h1 c hc.1 hc.2
      rw [decide_eq_true hc] at q
      rw [hf]; exact q
    · rw [decide_eq_false hc] at q
      rw [h2 c hc]; exact q
theorem ok_is_counting_call (F : Fn K mg "is_counting_call" "is_counting_call" s_is_counting_call ["number"]) {lo hi : Int} (D : Hands P w K mg base C "COUNTING_CALLS" lo hi) : Has P w K mg base 1 "is_counting_call" ["number"] (spIs lo hi) := by
  refine F.has (k := 0) sc_is_counting_call (fun vs H Q E h => ?_) (fun f cdv A outer s H vs Q E hr h => ?_)
  · obtain ⟨c, rfl, _⟩ := h
    rfl
  · obtain ⟨c, rfl, q⟩ := h
    obtain ⟨a, es, hm, hd, h1, h2⟩ := D
    refine ⟨_, pss_one (ps_ret (pe_cmp (pc_kin (pv 0) (pe_obj hm rfl)))), ?_⟩
    refine ⟨_, rfl, a, es, c, rfl, rfl, hd, ?_⟩
    by_cases hc : lo ≤ c ∧ c ≤ hi
    · obtain ⟨f, hf, _⟩ := h1 c hc.1 hc.2
      rw [decide_eq_true hc] at q
      rw [hf]; exact q
    · rw [decide_eq_false hc] at q
      rw [h2 c hc]; exact q
theorem ok_answer_history (F : Fn K mg "answer_history" "answer_history" s_answer_history ["population", "number", "wholes", "lists"]) {lo hi : Int} (D : Hands P w K mg base C "HISTORY_CALLS" lo hi) : Has P w K mg base 7 "answer_history" ["population", "number", "wholes", "lists"] (spDisp C lo hi) := by
  refine F.has (k := 6) sc_answer_history (fun vs H Q E h => ?_) (fun f cdv A outer s H vs Q E hr h => ?_)
  · obtain ⟨p, c, w, ls, rfl, _⟩ := h
    rfl
  · obtain ⟨p, c, w, ls, rfl, hlo, hhi, q⟩ := h
    obtain ⟨a, es, hm, hd, h1, _⟩ := D
    obtain ⟨g, hg, hC⟩ := h1 c hlo hhi
    refine ⟨_, pss_cons (ps_set (i := 4) sc_answer_history.nd rfl (Or.inl rfl) (pe_kget (pe_obj hm rfl) (pv 1) (fun _ _ => rfl))) (pss_one (ps_ret (pe_callV (k := 6) (ps := hps) (pv 4) hr (pa_cons (pv 0) (pa_cons (pv 2) (pa_cons (pv 3) pa_nil)))))), ?_⟩
    exact ⟨_, rfl, a, es, c, _, .ref g, rfl, rfl, hd, hg, rfl, _, rfl, g, _, rfl, hC, _, rfl, _, rfl, _, rfl, q⟩
theorem ok_answer_counting (F : Fn K mg "answer_counting" "answer_counting" s_answer_counting ["population", "number", "wholes", "lists"]) {lo hi : Int} (D : Hands P w K mg base C "COUNTING_CALLS" lo hi) : Has P w K mg base 7 "answer_counting" ["population", "number", "wholes", "lists"] (spDisp C lo hi) := by
  refine F.has (k := 6) sc_answer_counting (fun vs H Q E h => ?_) (fun f cdv A outer s H vs Q E hr h => ?_)
  · obtain ⟨p, c, w, ls, rfl, _⟩ := h
    rfl
  · obtain ⟨p, c, w, ls, rfl, hlo, hhi, q⟩ := h
    obtain ⟨a, es, hm, hd, h1, _⟩ := D
    obtain ⟨g, hg, hC⟩ := h1 c hlo hhi
    refine ⟨_, pss_cons (ps_set (i := 4) sc_answer_counting.nd rfl (Or.inl rfl) (pe_kget (pe_obj hm rfl) (pv 1) (fun _ _ => rfl))) (pss_one (ps_ret (pe_callV (k := 6) (ps := hps) (pv 4) hr (pa_cons (pv 0) (pa_cons (pv 2) (pa_cons (pv 3) pa_nil)))))), ?_⟩
    exact ⟨_, rfl, a, es, c, _, .ref g, rfl, rfl, hd, hg, rfl, _, rfl, g, _, rfl, hC, _, rfl, _, rfl, _, rfl, q⟩
def spIsCall : Sp := fun vs H Q _ => ∃ rw ras, ∃ c : List (List Int), vs = [.ref rw] ∧ VL H rw ras (c.map iv) ∧ PyFlat.okCall PyVbecaj.shape c ∧ ∀ H', Same H H' → Q (.bl true) H'
theorem shape_range {p : Int} {n k : Nat} (h : PyVbecaj.shape p = some (n, k)) : 0 ≤ p ∧ p ≤ 16 := by
  rcases shape_cases h with h | h | h | h | h | h | h | h | h | h | h | h | h | h | h | h | h <;> omega
theorem ok_is_call (F : Fn K mg "is_call" "is_call" s_is_call ["rows"]) (hH : Has P w K mg base 1 "is_history_call" ["number"] (spIs 0 7)) (hC : Has P w K mg base 1 "is_counting_call" ["number"] (spIs 8 16))
    (hS : Has P w K mg base 1 "shape_of" ["number"] (spShape K)) (nLen : mg "len" = none) : Has P w K mg base 2 "is_call" ["rows"] spIsCall := by
  refine F.has (k := 1) sc_is_call (fun vs H Q E h => ?_) (fun f cdv A outer s H vs Q E hr h => ?_)
  · obtain ⟨rw', ras, c, rfl, _⟩ := h
    rfl
  · obtain ⟨rw', ras, c, rfl, hV, ⟨p, a, xs, rfl, hs⟩, q⟩ := h
    obtain ⟨b, hb, hbb⟩ := hV.get (i := 0) (xs := iv (p :: a)) rfl
    have hp := shape_range hs
    refine ⟨_, pss_cons (ps_if (pt_cmpR op_eq (pe_callB call_len_seq (by rfl) nLen PySem.boot_len (pa_cons (pe_ix ix_list (pv 0) pe_int (fun _ _ => rfl)) pa_nil)) pe_int (nomark _)) (pss_one (ps_ret pe_bl)) pss_nil)
      (pss_cons (ps_set (i := 1) sc_is_call.nd rfl (Or.inl rfl) (pe_ix ix_list (pe_ix ix_list (pv 0) pe_int (fun _ _ => rfl)) pe_int (fun _ _ => rfl)))
      (pss_cons (ps_if (PW.pt (pw_and (pt_not (pt_val (pe_fn hH hr rfl (pa_cons (pv 1) pa_nil)))) (pw_and1 (pt_not (pt_val (pe_fn hC hr rfl (pa_cons (pv 1) pa_nil))))))) (pss_one (ps_ret pe_bl)) pss_nil)
      (pss_cons (ps_set (i := 2) sc_is_call.nd rfl (Or.inl rfl) (pe_fn hS hr rfl (pa_cons (pv 1) pa_nil)))
      (pss_one (ps_ret (pe_and (pe_cmpR op_eq (pe_callB call_len_seq (by rfl) nLen PySem.boot_len (pa_cons (pe_ix ix_list (pv 0) pe_int (fun _ _ => rfl)) pa_nil)) (pe_op op_add pe_int (pe_ix ix_tup (pv 2) pe_int (fun _ _ => rfl))) (nomark _))
        (pe_one (pe_cmpR op_eq (pe_callB call_len_seq (by rfl) nLen PySem.boot_len (pa_cons (pv 0) pa_nil)) (pe_op op_add pe_int (pe_ix ix_tup (pv 2) pe_int (fun _ _ => rfl))) (nomark _))))))))), ?_⟩
    refine ⟨_, rfl, rw', _, _, _, rfl, rfl, SqL.of hV.at_, atI_nat (j := 0) (hV.ref hb), b, _, rfl, .inl (SqL.of hbb), rfl, _, rfl, ?_⟩
    have e0 : ¬ V.int ((iv (p :: a)).length : Int) = V.int 0 := fun z => by
      have z := V.int.inj z
      rw [iv_length, List.length_cons] at z
      omega
    rw [decide_eq_false e0]
    refine iteF ⟨_, rfl, rw', _, _, _, rfl, rfl, SqL.of hV.at_, atI_nat (j := 0) (hV.ref hb), b, _, _, _, rfl, rfl, SqL.of hbb, atI_nat (j := 0) rfl, ?_⟩
    refine ⟨_, rfl, p, rfl, _, rfl, ?_⟩
    by_cases h7 : p ≤ 7
    case' pos =>
      rw [decide_eq_true (show 0 ≤ p ∧ p ≤ 7 from ⟨hp.1, h7⟩)]
      refine iteF (iteF ?_)
    case' neg =>
      rw [decide_eq_false (show ¬ (0 ≤ p ∧ p ≤ 7) from fun z => h7 z.2)]
      refine iteT ⟨_, rfl, p, rfl, _, rfl, ?_⟩
      rw [decide_eq_true (show 8 ≤ p ∧ p ≤ 16 from ⟨by omega, hp.2⟩)]
      refine iteF ?_
    all_goals
      refine ⟨_, rfl, p, _, _, rfl, hs, fun H' t sm hT => ?_⟩
      have hV' := hV.same sm
      refine ⟨_, rfl, rw', _, _, _, rfl, rfl, SqL.of hV'.at_, atI_nat (j := 0) (hV'.ref hb), b, _, rfl, .inl (SqL.of (sm _ _ hbb)), _, rfl, t, _, _, _, rfl, rfl, hT, atI_nat (j := 0) rfl, _, _, rfl, rfl, rfl, _, rfl, ?_⟩
      have e1 : V.int ((iv (p :: a)).length : Int) = V.int (1 + (a.length : Int)) := by
        rw [iv_length, List.length_cons]; congr 1; omega
      rw [decide_eq_true e1]
      refine iteT ⟨_, rfl, rw', _, rfl, .inl (SqL.of hV'.at_), _, rfl, t, _, _, _, rfl, rfl, hT, atI_nat (j := 1) rfl, _, _, rfl, rfl, rfl, ?_⟩
      have e2 : V.int ((ras.map V.ref).length : Int) = V.int (1 + (xs.length : Int)) := by
        rw [List.length_map, hV.len, List.length_map, List.length_cons]; congr 1; omega
      rw [decide_eq_true e2]
      exact q H' sm
def spCall (C : Addr) : Sp := fun vs H Q _ => ∃ p rw a1 a2 ras F, ∃ (s : State) (c : List (List Int)) (call : Vbecaj.Call), vs = [.ref p, .ref rw] ∧ Pop C H p a1 a2 F s ∧ VL H rw ras (c.map iv) ∧ PyFlat.okCall PyVbecaj.shape c ∧ Vbecaj.decode c = some call ∧ HK C H p a1 a2 F s call Q
theorem cut1 {α : Type} (f : α → V) (x : α) (l : List α) : cutV ((x :: l).map f) (some 1) none = l.map f := by
  unfold cutV
  have e : HT.sIx ((x :: l).map f).length 0 (some 1) = 1 := by
    have := HT.sIx_nat ((x :: l).map f).length 0 1
    rw [List.length_map, List.length_cons] at this ⊢
    exact this.trans (by omega)
  rw [e, HT.sIx_none, List.map_cons, List.drop_one, List.tail_cons, List.length_cons, Nat.add_sub_cancel, List.take_length]
theorem HK.grow {C : Addr} {H G : Hp} {p a1 a2 : Addr} {F : List Addr} {s : State} {call : Vbecaj.Call} {Q : VK} (k : HK C H p a1 a2 F s call Q) (sm : Same H G) : HK C G p a1 a2 F s call Q := by
  intro H' r b1 b2 F2 hP hF h1 h2 nr hr hk
  exact k H' r b1 b2 F2 hP (fun b hb => (hF b hb).imp_right sm.free) (h1.imp_right sm.free) (h2.imp_right sm.free) (sm.free nr) hr fun b o e n1 n2 n3 => hk b o (sm _ _ e) n1 n2 n3
theorem ok_answer_call (F : Fn K mg "answer_call" "answer_call" s_answer_call ["population", "rows"]) (G : Fns P w K mg base C) (N : Ks mg) (hI : Has P w K mg base 2 "is_call" ["rows"] spIsCall)
    (hH : Has P w K mg base 1 "is_history_call" ["number"] (spIs 0 7)) (hAH : Has P w K mg base 7 "answer_history" ["population", "number", "wholes", "lists"] (spDisp C 0 7)) (hAC : Has P w K mg base 7 "answer_counting" ["population", "number", "wholes", "lists"] (spDisp C 8 16)) :
    Has P w K mg base 8 "answer_call" ["population", "rows"] (spCall C) := by
  refine F.has (k := 7) sc_answer_call (fun vs H Q E h => ?_) (fun f cdv A outer s0 H vs Q E hr h => ?_)
  · obtain ⟨p, rw', a1, a2, ras, F', s, c, call, rfl, _⟩ := h
    rfl
  · obtain ⟨p, rw', a1, a2, ras, F', s, c, call, rfl, hP, hV, hok, hdec, k⟩ := h
    have hr1 : Room 1 _ := hr.mono (by decide)
    have hr2 : Room 2 _ := hr.mono (by decide)
    have hok' := hok
    obtain ⟨n, a, xs, rfl, hs⟩ := hok
    have hn := shape_range hs
    obtain ⟨b, hb, hbb⟩ := hV.get (i := 0) (xs := iv (n :: a)) rfl
    refine ⟨_, pss_cons (ps_if (pt_not (pt_val (pe_fn hI hr2 rfl (pa_cons (pv 1) pa_nil)))) (pss_one (ps_ret (pe_lst (pa_cons (pe_kst N.NO_SUCH_CALL rfl) pa_nil)))) pss_nil)
      (pss_cons (ps_set (i := 2) sc_answer_call.nd rfl (Or.inl rfl) (pe_ix ix_list (pe_ix ix_list (pv 1) pe_int (fun _ _ => rfl)) pe_int (fun _ _ => rfl)))
      (pss_cons (ps_if (PW.pt (pw_and (pt_cmpR op_ne (pv 2) (pe_kst N.FOUND rfl) (nomark _)) (pw_and1 (pt_not (pt_val (pe_mt0 G.has (pv 0) G.T.cl hr1)))))) (pss_one (ps_ret (pe_lst (pa_cons (pe_kst N.NO_COPIES rfl) pa_nil)))) pss_nil)
      (pss_cons (ps_set (i := 3) sc_answer_call.nd rfl (Or.inl rfl) (pe_slice sl_list (pe_ix ix_list (pv 1) pe_int (fun _ _ => rfl)) (po_some pe_int) po_none))
      (pss_cons (ps_set (i := 4) sc_answer_call.nd rfl (Or.inl rfl) (pe_slice sl_list (pv 1) (po_some pe_int) po_none))
      (pss_cons (ps_if (pt_val (pe_fn hH hr1 rfl (pa_cons (pv 2) pa_nil))) (pss_one (ps_ret (pe_fn hAH hr rfl (pa_cons (pv 0) (pa_cons (pv 2) (pa_cons (pv 3) (pa_cons (pv 4) pa_nil))))))) pss_nil)
      (pss_one (ps_ret (pe_fn hAC hr rfl (pa_cons (pv 0) (pa_cons (pv 2) (pa_cons (pv 3) (pa_cons (pv 4) pa_nil)))))))))))), ?_⟩
    refine ⟨_, rfl, rw', ras, _, rfl, hV, hok', fun H1 s1 => ⟨_, rfl, iteF ?_⟩⟩
    have hP1 := hP.keep s1
    have hV1 := hV.same s1
    have hb1 := s1 _ _ hbb
    have k1 := k.grow s1
    clear k hP hV hbb s1
    obtain ⟨dx, hp⟩ := hP1.obj
    refine ⟨_, rfl, rw', _, _, _, rfl, rfl, SqL.of hV1.at_, atI_nat (j := 0) (hV1.ref hb), b, _, _, _, rfl, rfl, SqL.of hb1, atI_nat (j := 0) rfl, ?_⟩
    refine ⟨_, rfl, rfl, _, rfl, ?_⟩
    have hsh : shp n a xs call := hdec
    -- behind the test of copies
    have hcop : n ≠ 0 → s.size ≠ 0 → Fm s := fun _ h => hP1.fm.elim (fun e => by subst e; exact absurd rfl h) id
    by_cases h0 : n = 0
    case' pos =>
      rw [decide_eq_true (show V.int n = V.int 0 by rw [h0])]
      refine iteF (iteF ?_)
      have hfm : decide (n ≠ 0) = true → Fm s := fun z => absurd h0 (of_decide_eq_true z)
    case' neg =>
      rw [decide_eq_false (show ¬ V.int n = V.int 0 from fun z => h0 (V.int.inj z))]
      refine iteT ⟨_, rfl, p, dx, _, rfl, hp, no_has _ _, p, a1, a2, _, s, rfl, hP1, _, rfl, ?_⟩
      by_cases hsz : s.size = 0
      case' pos =>
        rw [decide_eq_false (show ¬ s.size ≠ 0 from fun z => z hsz)]
        exact iteT ⟨one_line, fun r nr => k1.new (ans := [-1]) hP1 (act_none hsh h0 hn hsz) (Same.refl H1) nr⟩
      case' neg =>
        rw [decide_eq_true hsz]
        refine iteF ?_
        have hfm : decide (n ≠ 0) = true → Fm s := fun _ => hcop h0 hsz
    all_goals
      refine ⟨_, rfl, rw', _, _, _, rfl, rfl, SqL.of hV1.at_, atI_nat (j := 0) (hV1.ref hb), _, rfl, b, _, rfl, SqL.of hb1, fun q1 n1 => ?_⟩
      have e1 : cutV (iv (n :: a)) (some 1) none = iv a := cut1 V.int n a
      rw [e1]
      have s2 : Same H1 (upd H1 q1 (.lst (iv a))) := fun b o e => by rw [upd_ne (ne_of_none e n1)]; exact e
      have g2 : upd H1 q1 (.lst (iv a)) q1 = some (.lst (iv a)) := upd_same
      generalize upd H1 q1 (.lst (iv a)) = H2 at s2 g2
      have hV2 := hV1.same s2
      refine ⟨_, rfl, _, rfl, rw', _, rfl, SqL.of hV2.at_, fun q2 n2 => ?_⟩
      obtain ⟨r0, rs, hras⟩ : ∃ r0 rs, ras = r0 :: rs := by
        cases ras with
        | nil => cases hb
        | cons r0 rs => exact ⟨r0, rs, rfl⟩
      have e2 : cutV (ras.map V.ref) (some 1) none = rs.map V.ref := by rw [hras]; exact cut1 V.ref r0 rs
      rw [e2]
      have s3 : Same H2 (upd H2 q2 (.lst (rs.map V.ref))) := fun b o e => by rw [upd_ne (ne_of_none e n2)]; exact e
      have g3 : upd H2 q2 (.lst (rs.map V.ref)) q2 = some (.lst (rs.map V.ref)) := upd_same
      generalize upd H2 q2 (.lst (rs.map V.ref)) = H3 at s3 g3
      have hV3 := hV2.same s3
      rw [hras] at hV3
      have hL : VL H3 q2 rs (xs.map iv) := ⟨g3, by have := hV3.len; rw [List.map_cons, List.length_cons, List.length_cons] at this; omega, fun i b' ys e1 e2 => hV3.sub (i + 1) b' ys e1 e2⟩
      have sp : spHand C (shp n) (decide (n ≠ 0)) [.ref p, .ref q1, .ref q2] H3 Q E0 := ⟨p, q1, q2, a1, a2, rs, F', s, a, xs, call, rfl, hP1.keep (s2.trans s3), hfm, s3 _ _ g2, hL, hsh, k1.grow (s2.trans s3)⟩
      refine ⟨_, rfl, n, rfl, _, rfl, ?_⟩
      refine ite2 (fun h7 => ?_) (fun h7 => ?_)
      · have h7 := of_decide_eq_true h7
        exact ⟨_, rfl, _, rfl, _, rfl, _, rfl, p, n, q1, q2, rfl, h7.1, h7.2, sp⟩
      · have h7 : ¬ (0 ≤ n ∧ n ≤ 7) := fun z => h7 (decide_eq_true z)
        exact ⟨_, rfl, _, rfl, _, rfl, _, rfl, p, n, q1, q2, rfl, by omega, hn.2, sp⟩
end
end Gd
end
section
set_option Elab.async false
set_option maxRecDepth 100000
set_option maxHeartbeats 2000000
set_option linter.all false
namespace Gd
open PySem PySem.Spec PyProof.Rows L2
open Vbecaj (State act withList withNum withCopies withTime bad)
def Sh (o : Vbecaj.Out) : Prop := o.2.length ≤ 17
theorem sh_bad (s : State) (e : Int) : Sh (bad s e) := by show 1 ≤ 17; decide
theorem sh_copies {s : State} {k : Nat → Vbecaj.Out} (h : ∀ n, Sh (k n)) : Sh (withCopies s k) := by
  unfold withCopies; split
  · exact sh_bad _ _
  · exact h _
theorem sh_num {s : State} {n lo hi : Int} {k : Nat → Vbecaj.Out} (h : ∀ n, Sh (k n)) : Sh (withNum s n lo hi k) := by
  unfold withNum; split
  · exact h _
  · exact sh_bad _ _
theorem sh_list {s : State} {lo hi : Nat} {most : Int} {l : List Int} {k : List Nat → Vbecaj.Out} (h : ∀ l, Sh (k l)) : Sh (withList s lo hi most l k) := by
  unfold withList; split
  · exact h _
  · exact sh_bad _ _
theorem sh_time {s : State} {n : Nat} {t : Int} {k : Nat → Vbecaj.Out} (h : ∀ t, Sh (k t)) : Sh (withTime s n t k) := by
  unfold withTime
  refine sh_num fun t => ?_
  split
  · exact sh_bad _ _
  · exact h _
theorem sh_one (s : State) (x : Int) : Sh (s, [x]) := by show 1 ≤ 17; decide
theorem sh_two (s : State) (x y : Int) : Sh (s, [x, y]) := by show 2 ≤ 17; decide
theorem sh_three (s : State) (x y z : Int) : Sh (s, [x, y, z]) := by show 3 ≤ 17; decide
theorem act_len {s : State} (h : s.size ≤ 15) (call : Vbecaj.Call) : Sh (act s call) := by
  cases call with
  | found l => exact sh_list fun l => sh_one _ _
  | now =>
    refine sh_copies fun n => ?_
    show ([(s.generation : Int), (n : Int)] ++ Vbecaj.ints s.now).length ≤ 17
    rw [List.length_append]
    unfold Vbecaj.ints
    rw [List.length_map, now_length]
    show 2 + s.size ≤ 17
    omega
  | turn l =>
    refine sh_copies fun n => sh_list fun l => ?_
    split
    · exact sh_bad _ _
    · exact sh_one _ _
  | undo =>
    refine sh_copies fun n => ?_
    split
    · exact sh_bad _ _
    · exact sh_one _ _
  | number k => exact sh_copies fun n => sh_num fun k => sh_one _ _
  | back t c => exact sh_copies fun n => sh_num fun t => sh_num fun c => sh_one _ _
  | common l =>
    refine sh_copies fun n => sh_list fun l => ?_
    split
    · exact sh_one _ _
    · exact sh_three _ _ _ _
  | lines t => exact sh_copies fun n => sh_num fun t => sh_one _ _
  | all t => exact sh_copies fun n => sh_time fun t => sh_one _ _
  | ways i j t => exact sh_copies fun n => sh_num fun i => sh_num fun j => sh_time fun t => sh_one _ _
  | first i t => exact sh_copies fun n => sh_num fun i => sh_time fun t => sh_one _ _
  | merge m k t => exact sh_copies fun n => sh_num fun m => sh_num fun k => sh_time fun t => sh_one _ _
  | alike t => exact sh_copies fun n => sh_num fun n => sh_time fun t => sh_one _ _
  | unlike i t =>
    refine sh_copies fun n => sh_num fun i => sh_time fun t => ?_
    split
    · exact sh_bad _ _
    · exact sh_one _ _
  | toward c d =>
    refine sh_copies fun n => sh_list fun c => sh_list fun d => ?_
    split
    · exact sh_one _ _
    · exact sh_bad _ _
  | takes i a b => exact sh_copies fun n => sh_num fun i => sh_num fun a => sh_num fun b => sh_two _ _ _
  | chances i a b => exact sh_copies fun n => sh_num fun i => sh_num fun a => sh_num fun b => sh_three _ _ _ _
def aft (s : State) (cs : List (List (List Int))) : State := cs.foldl (fun s c => (VbecajNeutral.step s c).1) s
theorem aft_snoc (s : State) (cs : List (List (List Int))) (c : List (List Int)) : aft s (cs ++ [c]) = (VbecajNeutral.step (aft s cs) c).1 := by
  unfold aft; rw [List.foldl_append]; rfl
theorem played_snoc : ∀ (cs : List (List (List Int))) (s : State) (c : List (List Int)), PyFlat.played VbecajNeutral.step s (cs ++ [c]) = PyFlat.played VbecajNeutral.step s cs ++ [(VbecajNeutral.step (aft s cs) c).2]
  | [], s, c => rfl
  | d :: cs, s, c => by
    show (VbecajNeutral.step s d).2 :: PyFlat.played VbecajNeutral.step (VbecajNeutral.step s d).1 (cs ++ [c]) = _
    rw [played_snoc cs]; rfl
def toldOf (cs : List (List (List Int))) : List Int := PyFlat.told (PyFlat.played VbecajNeutral.step VbecajNeutral.start cs)
theorem told_snoc (cs : List (List (List Int))) (c : List (List Int)) : toldOf (cs ++ [c]) = toldOf cs ++ (((VbecajNeutral.step (aft VbecajNeutral.start cs) c).2.length : Int) :: (VbecajNeutral.step (aft VbecajNeutral.start cs) c).2) := by
  unfold toldOf PyFlat.told
  rw [played_snoc, List.flatMap_append]
  simp
theorem Pop.off {C : Addr} {H H' : Hp} {p a1 a2 t : Addr} {F : List Addr} {s : State} (h : Pop C H p a1 a2 F s) (k : ∀ b o, H b = some o → b ≠ t → H' b = some o) (hp : p ≠ t) (h1 : a1 ≠ t) (h2 : a2 ≠ t) (hF : ∀ b ∈ F, b ≠ t) : Pop C H' p a1 a2 F s := by
  obtain ⟨⟨dx, hp'⟩, ⟨as1, as2, v1, v2, n12, m11, m12, m21, m22, f1, f2⟩, f⟩ := h
  refine ⟨⟨dx, k _ _ hp' hp⟩, ⟨as1, as2, v1.keep fun b o e hb => k b o e ?_, v2.keep fun b o e hb => k b o e ?_, n12, m11, m12, m21, m22, f1, f2⟩, f⟩
  · rcases hb with rfl | hb
    · exact h1
    · exact hF b (f1 b hb)
  · rcases hb with rfl | hb
    · exact h2
    · exact hF b (f2 b hb)
theorem Pop.size15 {C : Addr} {H : Hp} {p a1 a2 : Addr} {F : List Addr} {s : State} (h : Pop C H p a1 a2 F s) : s.size ≤ 15 := by
  rcases h.fm with rfl | f
  · exact Nat.zero_le _
  · exact f.hi
section
variable {P : Program} {w : World} {K : PySem.W.Frag} {mg : Str → Option Value} {base : Heap} {C : Addr}
def spAnswers (K : PySem.W.Frag) : Sp := fun vs H Q _ => ∃ a, ∃ (l : List Int) (cs : List (List (List Int))), vs = [.ref a] ∧ SqL K H a (iv l) ∧ l.length ≤ 16000 ∧ l = PyFlat.put cs ∧ (∀ c ∈ cs, PyFlat.okCall PyVbecaj.shape c) ∧ cs.length ≤ 400 ∧
  ∀ H' q, H' q = some (.lst (iv (toldOf cs))) → Q (.ref q) H'
theorem ok_answers {f : Addr} {fd : FuncData} (F : Fun K "answers" "answers" s_answers f fd) (mP : mg "Population" = some (.ref C)) (hI : HasI P w K mg base 1 C ["self"] (spPInit C))
    (hR : Has P w K mg base 3 "read_calls" ["numbers"] (spReadAll K)) (hA : Has P w K mg base 8 "answer_call" ["population", "rows"] (spCall C)) (nLen : mg "len" = none) : FnOk P w K mg base CX0 9 f fd ["calls"] (spAnswers K) := by
  refine F.ok (k := 8) sc_answers (fun vs H Q E h => ?_) (fun cdv A outer s0 H vs Q E hr h => ?_)
  · obtain ⟨a, l, cs, rfl, _⟩ := h
    rfl
  · obtain ⟨a, l, cs, rfl, hL, hll, hput, hok, hcs, k⟩ := h
    have hr2 : Room 2 _ := hr.mono (by decide)
    have hr3 : Room 3 _ := hr.mono (by decide)
    refine ⟨_, pss_cons (ps_set (i := 1) sc_answers.nd rfl (Or.inl rfl) (pe_mk0 hI hr2 rfl mP))
      (pss_cons (ps_set (i := 2) sc_answers.nd rfl (Or.inl rfl) (pe_lst pa_nil))
      (pss_cons (ps_for PassesOwn.never rfl (pi_list (pe_fn hR hr3 rfl (pa_cons (pv 0) pa_nil))) (pg_name (i := 3) sc_answers.nd rfl (Or.inl rfl))
        (pss_cons (ps_set (i := 4) sc_answers.nd rfl (Or.inl rfl) (pe_fn hA hr rfl (pa_cons (pv 1) (pa_cons (pv 3) pa_nil))))
        (pss_cons (ps_expr (pe_bm PySem.F.plainAttrs_list PySem.F.slot_list_append PySem.F.type_list_append mt_append (pv 2) (pa_cons (pe_callB call_len_seq (by rfl) nLen PySem.boot_len (pa_cons (pv 4) pa_nil)) pa_nil)))
        (pss_one (ps_expr (pe_bm PySem.F.plainAttrs_list PySem.F.slot_list_extend PySem.F.type_list_extend mt_extend (pv 2) (pa_cons (pv 4) pa_nil)))))))
      (pss_one (ps_ret (pv 2))))), ?_⟩
    intro p dx n1 n2 n3
    refine ⟨p, dx, rfl, upd_same, fun H1 a1 a2 hP f1 f2 k1 => ⟨rfl, Nat.zero_le _, fun td ntd => ?_⟩⟩
    have s1 : Same H H1 := Same.made n1 n2 k1
    obtain ⟨dp, hp1⟩ := hP.obj
    obtain ⟨as1, as2, v1, v2, _⟩ := hP.rows
    have ntp : p ≠ td := ne_of_none hp1 ntd
    have nta1 : a1 ≠ td := ne_of_none v1.at_ ntd
    have nta2 : a2 ≠ td := ne_of_none v2.at_ ntd
    have sG : Same H1 (upd H1 td (.lst [])) := fun b o e => by rw [upd_ne (ne_of_none e ntd)]; exact e
    have tG : upd H1 td (.lst []) td = some (.lst []) := upd_same
    generalize upd H1 td (.lst []) = G at sG tG
    refine ⟨_, rfl, a, l, cs, rfl, (s1.trans sG).seq hL, hll, hput, hok, fun H2 q sm hN => ?_⟩
    obtain ⟨ras, hq, hlen, fq, hrows⟩ := hN
    have gp := sG _ _ hp1
    have ga1 := sG _ _ v1.at_
    have ga2 := sG _ _ v2.at_
    have hsl : sizeLine = 16777216 := sizeLine_eq
    let Off : Addr → Prop := fun b => b ≠ td ∧ ∀ o, H2 b = some o → G b = none → False
    refine ⟨q, rfl, ⟨_, SqL.of hq⟩, for_list (K := K) (a := q) (xs := ras.map V.ref) (fun i σ H' => ∃ (v3 v4 : Option V) (b1 b2 : Addr) (F' : List Addr), σ = [some (.ref a), some (.ref p), some (.ref td), v3, v4] ∧
        Pop C H' p b1 b2 F' (aft VbecajNeutral.start (cs.take i)) ∧ Off b1 ∧ Off b2 ∧ (∀ b ∈ F', Off b) ∧ H' td = some (.lst (iv (toldOf (cs.take i)))) ∧ (toldOf (cs.take i)).length ≤ 18 * i ∧ ∀ b o, H2 b = some o → G b = none → H' b = some o)
      ⟨none, none, a1, a2, [], rfl, hP.keep (sG.trans sm), ⟨nta1, fun o _ e => by rw [ga1] at e; cases e⟩, ⟨nta2, fun o _ e => by rw [ga2] at e; cases e⟩, by simp, sm _ _ tG, Nat.le_refl _, fun b o e _ => e⟩
      (fun i σ H' _ ⟨_, _, _, _, _, _, _, _, _, _, _, _, hk⟩ => SqL.of (hk q _ hq fq)) ?_ ?_⟩
    · rintro i y σ H' hi ⟨v3, v4, b1, b2, F', rfl, hP', hb1, hb2, hF', hT, hTl, hk⟩
      obtain ⟨r, hr', rfl⟩ : ∃ r, ras[i]? = some r ∧ y = V.ref r := by
        rw [List.getElem?_map] at hi
        cases e : ras[i]? with
        | none => rw [e] at hi; cases hi
        | some z => rw [e] at hi; exact ⟨z, rfl, (Option.some.inj hi).symm⟩
      have hilt : i < cs.length := by have := (List.getElem?_eq_some_iff.mp hr').1; omega
      have ec : cs[i]? = some cs[i] := List.getElem?_eq_getElem hilt
      have hc := hok _ (List.getElem_mem hilt)
      generalize cs[i] = c at ec hc
      obtain ⟨as, hV, gr, gas⟩ := hrows i r c hr' ec
      have hV' : VL H' r as (c.map iv) := hV.keep fun b o e hb => hk b o e (by rcases hb with rfl | hb; exact gr; exact gas b hb)
      obtain ⟨call, hdec⟩ := decode_ok hc
      generalize hs : aft VbecajNeutral.start (cs.take i) = s at hP'
      have hstep : VbecajNeutral.step s c = act s call := step_ok hdec
      refine ⟨_, rfl, _, rfl, p, r, b1, b2, as, F', s, c, call, rfl, hP', hV', hc, hdec, ?_⟩
      intro H3 ar c1 c2 F3 hP3 hF3 e1 e2 nr hr3 hk3
      have new : ∀ b, H' b = none → Off b := fun b hb => ⟨fun z => (by rw [z, hT] at hb; cases hb), fun o e g => (by rw [hk b o e g] at hb; cases hb)⟩
      have hT3 : H3 td = some (.lst (iv (toldOf (cs.take i)))) := hk3 td _ hT (Ne.symm ntp) (Ne.symm hb1.1) (Ne.symm hb2.1)
      have hal : (act s call).2.length ≤ 17 := act_len hP'.size15 call
      have nat' : ar ≠ td := (ne_of_none hT nr).symm
      refine ⟨_, rfl, .inl ⟨rfl, _, SqL.of hT3⟩, _, rfl, ar, _, rfl, .inl (SqL.of hr3), td, _, _, rfl, rfl, hT3, (by rw [iv_length]; omega), ?_⟩
      refine ⟨_, rfl, .inl ⟨rfl, _, SqL.of upd_same⟩, _, rfl, td, ar, _, _, rfl, rfl, upd_same, (by rw [upd_ne nat']; exact hr3), (by rw [List.length_append, iv_length, iv_length, List.length_singleton]; omega), ?_⟩
      rw [upd_upd]
      have off : ∀ {b0 : Addr} {x : Addr}, Off b0 → (x = b0 ∨ H' x = none) → Off x := fun h0 h => by
        rcases h with rfl | h
        · exact h0
        · exact new _ h
      have hF4 : ∀ b ∈ F3, Off b := fun b hb => by
        rcases hF3 b hb with h | h
        · exact hF' b h
        · exact new b h
      have o1 : Off c1 := off hb1 e1
      have o2 : Off c2 := off hb2 e2
      have et : toldOf (cs.take (i + 1)) = toldOf (cs.take i) ++ (((act s call).2.length : Int) :: (act s call).2) := by
        rw [take_snoc ec, told_snoc, hs, hstep]
      refine ⟨_, _, c1, c2, F3, rfl, ?_, o1, o2, hF4, ?_, ?_, fun b o e g => ?_⟩
      · rw [take_snoc ec, aft_snoc, hs, hstep]
        exact hP3.off (fun b o e hb => by rw [upd_ne hb]; exact e) ntp o1.1 o2.1 fun b hb => (hF4 b hb).1
      · rw [upd_same, et, iv_length]
        unfold iv
        rw [List.map_append, List.append_assoc]; rfl
      · rw [et, List.length_append, List.length_cons]; omega
      · have ntb : b ≠ td := fun z => by rw [z, tG] at g; cases g
        rw [upd_ne ntb]
        refine hk3 b o (hk b o e g) (fun z => ?_) (fun z => ?_) (fun z => ?_)
        · rw [z, gp] at g; cases g
        · exact hb1.2 o (z ▸ e) (z ▸ g)
        · exact hb2.2 o (z ▸ e) (z ▸ g)
    · rintro σ H' ⟨v3, v4, b1, b2, F', rfl, hP', hb1, hb2, hF', hT, hTl, hk⟩
      rw [List.length_map, hlen, List.take_length] at hT
      exact ⟨_, rfl, k H' td hT⟩
end
end Gd
end
section
set_option Elab.async false
set_option maxRecDepth 100000
set_option maxHeartbeats 2000000
set_option linter.all false
namespace Gd
open PySem PySem.Spec PyProof.Rows L2
open Vbecaj (choose falling parts ways1 later single waysFrom ways firstFrom first before mergeFrom merge unlike toward takes lowest)
theorem for_range0 {n : Nat} {g : TG} {tb : TS} {D : Ends} {σ : L2.St} {H : Hp} (Pv : Nat → L2.St → Hp → Prop) (h0 : Pv 0 σ H)
    (hs : ∀ i σ H, i < n → Pv i σ H → g (.int (i : Int)) σ H fun σ2 H2 => tb { D with nx := Pv (i + 1), ct := Pv (i + 1), bk := D.nx } σ2 H2) (hd : ∀ σ H, Pv n σ H → D.nx σ H) :
    ∃ W : Nat → Nat → L2.St → Hp → Prop, (∃ m, W 0 m σ H) ∧ ∀ i m σ H, W i m σ H →
      ((Itr 0 n).stop i H ∧ D.nx σ H) ∨ ((Itr 0 n).go i H ∧ ∃ N : L2.St → Hp → Prop, (∀ σ' H', N σ' H' → ∃ m', m' < m ∧ W (i + 1) m' σ' H') ∧ ∀ x H', (Itr 0 n).yld i H x H' → g x σ H' fun σ2 H2 => tb { D with nx := N, ct := N, bk := D.nx } σ2 H2) :=
  for_range (lo := 0) Pv h0 (fun i σ H hi p => by rw [Int.zero_add]; exact hs i σ H hi p) hd
theorem lc_range0 {n : Nat} {g : TG} {tt : TT} {te : TE} {vs : List Nat} {σ : L2.St} {H1 : Hp} {D : Addr} {Qd : Hp → Prop} (Pv : Nat → Hp → Prop) (h0 : Pv 0 (upd H1 D (.lst [])))
    (hs : ∀ i H, i < n → Pv i H → g (.int (i : Int)) (wipe σ vs) H fun σ2 H2 => wipe σ2 vs = wipe σ vs ∧ tt σ2 H2 fun b H3 =>
      if b = true then te σ2 H3 fun y H4 => ∃ acc, H4 D = some (.lst acc) ∧ acc.length < sizeLine ∧ Pv (i + 1) (upd H4 D (.lst (acc ++ [y]))) else Pv (i + 1) H3) (hd : ∀ H, Pv n H → Qd H) :
    ∃ W : Nat → Nat → Hp → Prop, (∃ m, W 0 m (upd H1 D (.lst []))) ∧ ∀ i m H, W i m H →
      ((Itr 0 n).stop i H ∧ Qd H) ∨ ((Itr 0 n).go i H ∧ ∃ Nx : Hp → Prop, (∀ H', Nx H' → ∃ m', m' < m ∧ W (i + 1) m' H') ∧ ∀ x H', (Itr 0 n).yld i H x H' → g x (wipe σ vs) H' fun σ2 H2 => wipe σ2 vs = wipe σ vs ∧ tt σ2 H2 fun b H3 =>
        if b = true then te σ2 H3 fun y H4 => ∃ acc, H4 D = some (.lst acc) ∧ acc.length < sizeLine ∧ Nx (upd H4 D (.lst (acc ++ [y]))) else Nx H3) :=
  lc_range (lo := 0) Pv h0 (fun i H hi p => by rw [Int.zero_add]; exact hs i H hi p) hd
theorem toNat_succ (n : Nat) : ((n : Int) + 1).toNat = n + 1 := by omega
theorem _root_.L2.Same.upd {H H' : Hp} {q : Addr} (sm : Same H H') (nq : H q = none) (x : HO) : Same H (L2.upd H' q x) := fun b o e => by rw [upd_ne (ne_of_none e nq)]; exact sm b o e
theorem nv_set (l : List Nat) (j y : Nat) : (nv l).set j (V.int (y : Int)) = nv (l.set j y) := by
  unfold nv; rw [List.map_set]
theorem nv_at {l : List Nat} {j x : Nat} (h : l[j]? = some x) : (nv l)[j]? = some (V.int (x : Int)) := by
  unfold nv; rw [List.getElem?_map, h]; rfl
theorem part_put {n m j : Nat} {v : List Nat} {u : Nat → Nat → Nat} (h : j ≤ n) : (nv (partIn n m j v u)).set j (V.int (((sumTo m fun i => v.getD i 0 * u i j : Nat) : Int) + ((v.getD m 0 * u m j : Nat) : Int))) = nv (partIn n m (j + 1) v u) := by
  rw [← Int.natCast_add, nv_set, partIn_set _ _ h]
theorem rep_zero (n : Nat) : (List.replicate ((n : Int) + 1).toNat [V.int 0]).flatten = nv (row n fun _ => 0) := by
  rw [toNat_succ, List.flatten_replicate_singleton, ← row_const]
  unfold nv
  rw [List.map_replicate]; rfl
theorem line_of {n : Nat} (h : n ≤ 1000) : n ≤ sizeLine := by rw [sizeLine_eq]; omega
theorem pow_le64 {b e : Nat} (hb : b ≤ 15) (he : e ≤ 15) : b ^ e < 2 ^ 64 :=
  Nat.lt_of_le_of_lt (Nat.le_trans (Nat.pow_le_pow_left hb e) (Nat.pow_le_pow_right (by decide) he)) (by decide)
theorem mul64 {x : Nat} (h : x < 2 ^ 64) : (-(2 ^ 64) : Int) < (x : Int) ∧ (x : Int) < 2 ^ 64 := by omega
section
variable {P : Program} {w : World} {K : PySem.W.Frag} {mg : Str → Option Value} {base : Heap} {C : Addr}
def spChoose : Sp := fun vs H Q _ => ∃ n k : Nat, vs = [.int (n : Int), .int (k : Int)] ∧ k ≤ n ∧ n ≤ 15 ∧ Q (.int (choose n k : Int)) H
theorem ok_choose (F : Fn K mg "choose" "choose" s_choose ["size", "amount"]) (nRange : mg "range" = none) : Has P w K mg base 1 "choose" ["size", "amount"] spChoose := by
  refine F.has (k := 0) sc_choose (fun vs H Q E h => ?_) (fun f cdv A outer s H vs Q E hr h => ?_)
  · obtain ⟨n, k, rfl, _⟩ := h
    rfl
  · obtain ⟨n, k, rfl, hk, hn, q⟩ := h
    refine ⟨_, pss_cons (ps_set (i := 2) sc_choose.nd rfl (Or.inl rfl) pe_int)
      (pss_cons (ps_for PassesOwn.never rfl (pi_range1 rfl nRange (pa_cons (pv 1) pa_nil)) (pg_name (i := 3) sc_choose.nd rfl (Or.inl rfl))
        (pss_one (ps_set (i := 2) sc_choose.nd rfl (Or.inl rfl) (pe_op op_fdiv (pe_op op_mul (pv 2) (pe_op op_sub (pv 0) (pv 3))) (pe_op op_add (pv 3) pe_int)))))
      (pss_one (ps_ret (pv 2)))), ?_⟩
    refine ⟨_, rfl, _, rfl, by omega, by omega, ?_⟩
    rw [Int.toNat_natCast]
    refine for_range0 (n := k) (fun i σ H' => ∃ v : Option V, σ = [some (.int (n : Int)), some (.int (k : Int)), some (.int (choose n i : Int)), v] ∧ H' = H) ⟨none, by rw [choose_zero]; rfl, rfl⟩ ?_ ?_
    · rintro i σ H' hi ⟨v, rfl, rfl⟩
      refine ⟨_, rfl, _, rfl, _, rfl, _, _, rfl, rfl, _, _, rfl, rfl, .inr ⟨by omega, by omega⟩, _, rfl, _, _, rfl, rfl, _, _, rfl, rfl, ⟨by omega, by omega⟩, ?_⟩
      have e : (choose n i : Int) * ((n : Int) - (i : Int)) / ((i : Int) + 1) = ((choose n (i + 1) : Nat) : Int) := by
        have e1 : (n : Int) - (i : Int) = ((n - i : Nat) : Int) := by omega
        have e2 : (i : Int) + 1 = ((i + 1 : Nat) : Int) := by omega
        rw [e1, e2, ← Int.natCast_mul, ← Int.natCast_ediv, choose_div]
      refine ⟨some (.int (i : Int)), ?_, rfl⟩
      show [some (V.int (n : Int)), some (V.int (k : Int)), some (V.int ((choose n i : Int) * ((n : Int) - (i : Int)) / ((i : Int) + 1))), some (V.int (i : Int))] = _
      rw [e]
    · rintro σ H' ⟨v, rfl, rfl⟩
      exact ⟨_, rfl, q⟩
def spDraws : Sp := fun vs H Q _ => ∃ n i j : Nat, vs = [.int (n : Int), .int (i : Int), .int (j : Int)] ∧ i ≤ n ∧ j ≤ n ∧ n ≤ 15 ∧ Q (.int (ways1 n i j : Int)) H
theorem ok_count_draws (F : Fn K mg "count_draws" "count_draws" s_count_draws ["n", "i", "j"]) (hC : Has P w K mg base 1 "choose" ["size", "amount"] spChoose) (hP : Has P w K mg base 1 "power" ["base", "exponent"] spPower) : Has P w K mg base 2 "count_draws" ["n", "i", "j"] spDraws := by
  refine F.has (k := 1) sc_count_draws (fun vs H Q E h => ?_) (fun f cdv A outer s H vs Q E hr h => ?_)
  · obtain ⟨n, i, j, rfl, _⟩ := h
    rfl
  · obtain ⟨n, i, j, rfl, hi, hj, hn, q⟩ := h
    refine ⟨_, pss_one (ps_ret (pe_op op_mul (pe_op op_mul (pe_fn hC hr rfl (pa_cons (pv 0) (pa_cons (pv 2) pa_nil))) (pe_fn hP hr rfl (pa_cons (pv 1) (pa_cons (pv 2) pa_nil))))
      (pe_fn hP hr rfl (pa_cons (pe_op op_sub (pv 0) (pv 1)) (pa_cons (pe_op op_sub (pv 0) (pv 2)) pa_nil))))), ?_⟩
    have h1 := pow_le64 (b := i) (e := j) (by omega) (by omega)
    have h2 := pow_le64 (b := n - i) (e := n - j) (by omega) (by omega)
    refine ⟨_, rfl, _, rfl, n, j, rfl, hj, hn, _, rfl, _, rfl, (i : Int), j, rfl, ⟨by omega, by omega⟩, by omega, _, _, rfl, rfl, .inr ?_, _, rfl, _, rfl, _, _, rfl, rfl, _, rfl, _, rfl, _, _, rfl, rfl, ((n - i : Nat) : Int), n - j, ?_, ⟨by omega, by omega⟩, by omega, _, _, rfl, rfl, .inr ?_, ?_⟩
    · rw [← Int.natCast_pow]; exact mul64 h1
    · rw [Int.ofNat_sub hi, Int.ofNat_sub hj]; rfl
    · rw [← Int.natCast_pow]; exact mul64 h2
    · show Q (V.int ((choose n j : Int) * (i : Int) ^ j * ((n - i : Nat) : Int) ^ (n - j))) H
      rw [← Int.natCast_pow, ← Int.natCast_pow, ← Int.natCast_mul, ← Int.natCast_mul]; exact q
def spStart : Sp := fun vs H Q _ => ∃ n i : Nat, vs = [.int (n : Int), .int (i : Int)] ∧ i ≤ n ∧ n ≤ 15 ∧ ∀ H' q, Same H H' → H q = none → H' q = some (.lst (nv (single n i))) → Q (.ref q) H'
theorem single_set {n i : Nat} (h : i ≤ n) : (nv (row n fun _ => 0)).set i (V.int 1) = nv (single n i) := by
  have := nv_set (row n fun _ => 0) i 1
  rw [row_set _ _ h] at this
  exact this
theorem ok_counts_at_start (F : Fn K mg "counts_at_start" "counts_at_start" s_counts_at_start ["n", "i"]) : Has P w K mg base 1 "counts_at_start" ["n", "i"] spStart := by
  refine F.has (k := 0) sc_counts_at_start (fun vs H Q E h => ?_) (fun f cdv A outer s H vs Q E hr h => ?_)
  · obtain ⟨n, i, rfl, _⟩ := h
    rfl
  · obtain ⟨n, i, rfl, hi, hn, q⟩ := h
    refine ⟨_, pss_cons (ps_set (i := 2) sc_counts_at_start.nd rfl (Or.inl rfl) (pe_op op_rep (pe_lst (pa_cons pe_int pa_nil)) (pe_op op_add (pv 0) pe_int)))
      (pss_cons (ps_asg pe_int (pg_sub (pv 2) (pv 1) set_list))
      (pss_one (ps_ret (pv 2)))), ?_⟩
    refine ⟨one_line, fun l nl => ⟨_, rfl, _, _, rfl, rfl, l, _, _, rfl, rfl, upd_same, by omega, by omega, ?_, fun p np => ?_⟩⟩
    · rw [toNat_succ]
      exact line_of (by show 1 * (n + 1) ≤ 1000; omega)
    · rw [rep_zero]
      refine ⟨_, rfl, _, rfl, p, _, _, i, rfl, rfl, upd_same, ixN_nat (by rw [nv_length, row_length]; omega), _, rfl, ?_⟩
      rw [single_set hi]
      have s1 : Same H (upd H l (.lst [V.int 0])) := (Same.refl H).upd nl _
      have n1 : H p = none := s1.free np
      exact q _ p ((s1.upd n1 _).upd n1 _) n1 upd_same
def spLater (K : PySem.W.Frag) : Sp := fun vs H Q _ => ∃ (n : Nat) (c : Addr) (v : List Nat), vs = [.int (n : Int), .ref c] ∧ n ≤ 15 ∧ SqL K H c (nv v) ∧ v.length = n + 1 ∧ ∀ H' q, Same H H' → H q = none → H' q = some (.lst (nv (later n v))) → Q (.ref q) H'
theorem ok_counts_one_later (F : Fn K mg "counts_one_later" "counts_one_later" s_counts_one_later ["n", "counts"]) (hD : Has P w K mg base 2 "count_draws" ["n", "i", "j"] spDraws) (nRange : mg "range" = none) : Has P w K mg base 3 "counts_one_later" ["n", "counts"] (spLater K) := by
  refine F.has (k := 2) sc_counts_one_later (fun vs H Q E h => ?_) (fun f cdv A outer s H vs Q E hr h => ?_)
  · obtain ⟨n, c, v, rfl, _⟩ := h
    rfl
  · obtain ⟨n, c, v, rfl, hn, hC, hv, k⟩ := h
    refine ⟨_, pss_cons (ps_set (i := 2) sc_counts_one_later.nd rfl (Or.inl rfl) (pe_op op_rep (pe_lst (pa_cons pe_int pa_nil)) (pe_op op_add (pv 0) pe_int)))
      (pss_cons (ps_for PassesOwn.never rfl (pi_range1 rfl nRange (pa_cons (pe_op op_add (pv 0) pe_int) pa_nil)) (pg_name (i := 3) sc_counts_one_later.nd rfl (Or.inl rfl))
        (pss_one (ps_if (pt_cmpR op_gt (pe_ix ix_list (pv 1) (pv 3) (fun _ _ => rfl)) pe_int (nomark _))
          (pss_one (ps_for PassesOwn.never rfl (pi_range1 rfl nRange (pa_cons (pe_op op_add (pv 0) pe_int) pa_nil)) (pg_name (i := 4) sc_counts_one_later.nd rfl (Or.inl rfl))
            (pss_one (ps_augS (pv 2) (pv 4) get_list (pe_op op_mul (pe_ix ix_list (pv 1) (pv 3) (fun _ _ => rfl)) (pe_fn hD hr rfl (pa_cons (pv 0) (pa_cons (pv 3) (pa_cons (pv 4) pa_nil))))) ip_add set_list))))
          pss_nil)))
      (pss_one (ps_ret (pv 2)))), ?_⟩
    refine ⟨one_line, fun l nl => ⟨_, rfl, _, _, rfl, rfl, l, _, _, rfl, rfl, upd_same, by omega, by omega, ?_, fun p np => ?_⟩⟩
    · rw [toNat_succ]
      exact line_of (by show 1 * (n + 1) ≤ 1000; omega)
    · rw [rep_zero]
      have s1 : Same H (upd H l (.lst [V.int 0])) := (Same.refl H).upd nl _
      have n1 : H p = none := s1.free np
      refine ⟨_, rfl, _, _, rfl, rfl, _, rfl, by omega, by omega, ?_⟩
      rw [toNat_succ]
      refine for_range0 (n := n + 1) (fun m σ H' => ∃ (x y : Option V), σ = [some (.int (n : Int)), some (.ref c), some (.ref p), x, y] ∧ Same H H' ∧ H' p = some (.lst (nv (part n m v fun i j => ways1 n i j))))
        ⟨none, none, rfl, s1.upd n1 _, by rw [part_zero]; exact upd_same⟩ ?_ ?_
      · rintro m σ H' hm ⟨x, y, rfl, sm, hp⟩
        have hcm : (nv v)[m]? = some (.int (v.getD m 0 : Nat)) := getD_get (by omega)
        refine ⟨_, rfl, _, rfl, c, _, _, _, rfl, rfl, sm.seq hC, atI_nat hcm, _, _, rfl, rfl, _, rfl, ?_⟩
        refine ite2 (fun h1 => ?_) (fun h1 => ?_)
        · refine ⟨_, rfl, _, _, rfl, rfl, _, rfl, by omega, by omega, ?_⟩
          rw [toNat_succ]
          refine for_range0 (n := n + 1) (fun j σ H' => ∃ (y : Option V), σ = [some (.int (n : Int)), some (.ref c), some (.ref p), some (.int (m : Int)), y] ∧ Same H H' ∧ H' p = some (.lst (nv (partIn n m j v fun i j => ways1 n i j))))
            ⟨y, rfl, sm, by rw [partIn_zero]; exact hp⟩ ?_ ?_
          · rintro j σ H2 hj ⟨y, rfl, sm2, hp2⟩
            have hw := Nat.lt_of_le_of_lt (ways1_le (n := n) (i := m) j (by omega)) (pow_le15 n hn)
            refine ⟨_, rfl, _, rfl, p, _, j, _, rfl, rfl, SqL.of hp2, nv_at (partIn_get v _ (by omega)), _, rfl, _, rfl, c, _, _, _, rfl, rfl, sm2.seq hC, atI_nat hcm, _, rfl, _, rfl, _, rfl, n, m, j, rfl, by omega, by omega, hn, _, _, rfl, rfl, .inr (mul64 hw), _, _, rfl, rfl,
              p, _, _, j, rfl, rfl, hp2, ixN_nat (by rw [nv_length, partIn_length]; omega), _, rfl, sm2.upd n1 _, ?_⟩
            rw [upd_same, ← Int.natCast_mul]
            exact congrArg (fun x => some (HO.lst x)) (part_put (u := fun i j => ways1 n i j) (by omega))
          · rintro σ H2 ⟨y, rfl, sm2, hp2⟩
            refine ⟨_, _, rfl, sm2, ?_⟩
            rw [← partIn_all]; exact hp2
        · refine ⟨_, _, rfl, sm, ?_⟩
          have h1 : ¬ (0 : Int) < (v.getD m 0 : Nat) := fun z => h1 (decide_eq_true z)
          rw [part_skip (by omega)]; exact hp
      · rintro σ H' ⟨x, y, rfl, sm, hp⟩
        exact ⟨_, rfl, k H' p sm n1 hp⟩
end
end Gd
end
section
set_option Elab.async false
set_option maxRecDepth 100000
set_option maxHeartbeats 2000000
set_option linter.all false
namespace Gd
open PySem PySem.Spec PyProof.Rows L2
open Vbecaj (choose falling parts ways1 later single waysFrom ways firstFrom first before mergeFrom merge unlike toward takes lowest)
section
variable {P : Program} {w : World} {K : PySem.W.Frag} {mg : Str → Option Value} {base : Heap} {C : Addr}
def spWays : Sp := fun vs H Q _ => ∃ n i t : Nat, vs = [.int (n : Int), .int (i : Int), .int (t : Int)] ∧ i ≤ n ∧ n ≤ 15 ∧ t ≤ 20 ∧ ∀ H' q, Same H H' → H q = none → H' q = some (.lst (nv (waysFrom n t (single n i)))) → Q (.ref q) H'
theorem ok_count_ways (F : Fn K mg "count_ways" "count_ways" s_count_ways ["n", "i", "t"]) (hS : Has P w K mg base 1 "counts_at_start" ["n", "i"] spStart) (hL : Has P w K mg base 3 "counts_one_later" ["n", "counts"] (spLater K)) (nRange : mg "range" = none) : Has P w K mg base 4 "count_ways" ["n", "i", "t"] spWays := by
  refine F.has (k := 3) sc_count_ways (fun vs H Q E h => ?_) (fun f cdv A outer s H vs Q E hr h => ?_)
  · obtain ⟨n, i, t, rfl, _⟩ := h
    rfl
  · obtain ⟨n, i, t, rfl, hi, hn, ht, k⟩ := h
    have hr1 : Room 1 _ := hr.mono (by decide)
    refine ⟨_, pss_cons (ps_set (i := 3) sc_count_ways.nd rfl (Or.inl rfl) (pe_fn hS hr1 rfl (pa_cons (pv 0) (pa_cons (pv 1) pa_nil))))
      (pss_cons (ps_for PassesOwn.never rfl (pi_range1 rfl nRange (pa_cons (pv 2) pa_nil)) (pg_name (i := 4) sc_count_ways.nd rfl (Or.inl rfl))
        (pss_one (ps_set (i := 3) sc_count_ways.nd rfl (Or.inl rfl) (pe_fn hL hr rfl (pa_cons (pv 0) (pa_cons (pv 3) pa_nil))))))
      (pss_one (ps_ret (pv 3)))), ?_⟩
    refine ⟨_, rfl, _, rfl, n, i, rfl, hi, hn, fun H1 q1 s1 n1 g1 => ⟨_, rfl, _, rfl, by omega, by omega, ?_⟩⟩
    rw [Int.toNat_natCast]
    refine for_range0 (n := t) (fun m σ H' => ∃ (x : Option V) (q : Addr) (v : List Nat), σ = [some (.int (n : Int)), some (.int (i : Int)), some (.int (t : Int)), some (.ref q), x] ∧ Same H H' ∧ H q = none ∧ H' q = some (.lst (nv v)) ∧ v.length = n + 1 ∧ waysFrom n (t - m) v = waysFrom n t (single n i))
      ⟨none, q1, single n i, rfl, s1, n1, g1, single_length n i, rfl⟩ ?_ ?_
    · rintro m σ H' hm ⟨x, q, v, rfl, sm, nq, hq, hv, e⟩
      refine ⟨_, rfl, _, rfl, n, q, v, rfl, hn, SqL.of hq, hv, fun H2 q2 s2 n2 g2 => ?_⟩
      refine ⟨_, q2, later n v, rfl, sm.trans s2, sm.free n2, g2, later_length n v, ?_⟩
      have e1 : t - m = (t - (m + 1)) + 1 := by omega
      rw [e1] at e
      exact e
    · rintro σ H' ⟨x, q, v, rfl, sm, nq, hq, hv, e⟩
      have e : v = waysFrom n t (single n i) := by
        rw [Nat.sub_self] at e; exact e
      rw [e] at hq
      exact ⟨_, rfl, k H' q sm nq hq⟩
def spFirst : Sp := fun vs H Q _ => ∃ n i t : Nat, vs = [.int (n : Int), .int (i : Int), .int (t : Int)] ∧ i ≤ n ∧ n ≤ 15 ∧ t ≤ 20 ∧ ∀ H', Same H H' → Q (.int (first n i t : Int)) H'
theorem ok_count_first (F : Fn K mg "count_first" "count_first" s_count_first ["n", "i", "t"]) (hS : Has P w K mg base 1 "counts_at_start" ["n", "i"] spStart) (hL : Has P w K mg base 3 "counts_one_later" ["n", "counts"] (spLater K)) (nRange : mg "range" = none) : Has P w K mg base 4 "count_first" ["n", "i", "t"] spFirst := by
  refine F.has (k := 3) sc_count_first (fun vs H Q E h => ?_) (fun f cdv A outer s H vs Q E hr h => ?_)
  · obtain ⟨n, i, t, rfl, _⟩ := h
    rfl
  · obtain ⟨n, i, t, rfl, hi, hn, ht, k⟩ := h
    have hr1 : Room 1 _ := hr.mono (by decide)
    refine ⟨_, pss_cons (ps_set (i := 3) sc_count_first.nd rfl (Or.inl rfl) (pe_fn hS hr1 rfl (pa_cons (pv 0) (pa_cons (pv 1) pa_nil))))
      (pss_cons (ps_for PassesOwn.never rfl (pi_range1 rfl nRange (pa_cons (pv 2) pa_nil)) (pg_name (i := 4) sc_count_first.nd rfl (Or.inl rfl))
        (pss_cons (ps_asg pe_int (pg_sub (pv 3) (pv 0) set_list))
        (pss_one (ps_set (i := 3) sc_count_first.nd rfl (Or.inl rfl) (pe_fn hL hr rfl (pa_cons (pv 0) (pa_cons (pv 3) pa_nil)))))))
      (pss_one (ps_ret (pe_ix ix_list (pv 3) (pv 0) (fun _ _ => rfl))))), ?_⟩
    refine ⟨_, rfl, _, rfl, n, i, rfl, hi, hn, fun H1 q1 s1 n1 g1 => ⟨_, rfl, _, rfl, by omega, by omega, ?_⟩⟩
    rw [Int.toNat_natCast]
    refine for_range0 (n := t) (fun m σ H' => ∃ (x : Option V) (q : Addr) (v : List Nat), σ = [some (.int (n : Int)), some (.int (i : Int)), some (.int (t : Int)), some (.ref q), x] ∧ Same H H' ∧ H q = none ∧ H' q = some (.lst (nv v)) ∧ v.length = n + 1 ∧ firstFrom n (t - m) v = first n i t)
      ⟨none, q1, single n i, rfl, s1, n1, g1, single_length n i, rfl⟩ ?_ ?_
    · rintro m σ H' hm ⟨x, q, v, rfl, sm, nq, hq, hv, e⟩
      refine ⟨_, rfl, _, rfl, q, _, _, n, rfl, rfl, hq, ixN_nat (by rw [nv_length]; omega), ?_⟩
      have es : (nv v).set n (V.int 0) = nv (v.set n 0) := nv_set v n 0
      rw [es]
      have s2 := sm.upd nq (.lst (nv (v.set n 0)))
      have g2 : upd H' q (.lst (nv (v.set n 0))) q = some (.lst (nv (v.set n 0))) := upd_same
      generalize upd H' q (.lst (nv (v.set n 0))) = H2 at s2 g2
      refine ⟨_, rfl, _, rfl, n, q, v.set n 0, rfl, hn, SqL.of g2, by rw [List.length_set]; exact hv, fun H3 q3 s3 n3 g3 => ?_⟩
      refine ⟨_, q3, later n (v.set n 0), rfl, s2.trans s3, s2.free n3, g3, later_length n _, ?_⟩
      have e1 : t - m = (t - (m + 1)) + 1 := by omega
      rw [e1] at e
      exact e
    · rintro σ H' ⟨x, q, v, rfl, sm, nq, hq, hv, e⟩
      have e : v.getD n 0 = first n i t := by
        rw [Nat.sub_self] at e; exact e
      refine ⟨_, rfl, _, rfl, q, _, _, _, rfl, rfl, SqL.of hq, atI_nat (getD_get (by omega)), ?_⟩
      rw [e]
      exact k H' sm
theorem row_map_sum (l : List Nat) : (l.map fun (x : Nat) => (x : Int)).sum = ((l.sum : Nat) : Int) := by
  induction l with
  | nil => rfl
  | cons x l ih => rw [List.map_cons, List.sum_cons, List.sum_cons, ih, Int.natCast_add]
def spUnlike : Sp := fun vs H Q _ => ∃ n i t : Nat, vs = [.int (n : Int), .int (i : Int), .int (t : Int)] ∧ i ≤ n ∧ n ≤ 15 ∧ t ≤ 20 ∧ ∀ H', Same H H' → Q (.int (unlike n i t : Int)) H'
theorem ok_sum_unlike (F : Fn K mg "sum_unlike" "sum_unlike" s_sum_unlike ["n", "i", "t"]) (hW : Has P w K mg base 4 "count_ways" ["n", "i", "t"] spWays) (nRange : mg "range" = none) (nSum : mg "sum" = none) : Has P w K mg base 5 "sum_unlike" ["n", "i", "t"] spUnlike := by
  refine F.has (k := 4) sc_sum_unlike (fun vs H Q E h => ?_) (fun f cdv A outer s H vs Q E hr h => ?_)
  · obtain ⟨n, i, t, rfl, _⟩ := h
    rfl
  · obtain ⟨n, i, t, rfl, hi, hn, ht, k⟩ := h
    refine ⟨_, pss_cons (ps_set (i := 3) sc_sum_unlike.nd rfl (Or.inr rfl) (pe_fn hW hr rfl (pa_cons (pv 0) (pa_cons (pv 1) (pa_cons (pv 2) pa_nil)))))
      (pss_one (ps_ret (pe_callB (cr_sum rfl) (by rfl) nSum boot_sum (pa_cons (pe_lc (own := [("j", 4)]) rfl sc_sum_unlike.nd (pi_range1 rfl nRange (pa_cons (pe_op op_add (pv 0) pe_int) pa_nil)) (blkOk_by (by rfl)) (fun _ _ _ _ _ => pg_name (i := 4) sc_sum_unlike.nd rfl (Or.inl rfl)) (fun _ _ _ _ _ => pts_nil)
        (fun _ _ _ _ _ => pe_op op_mul (pe_op op_mul (pe_ix (r := rIxL K) ix_list (pv 3) (pv 4) (fun _ _ => rfl)) (pv 4)) (pe_op op_sub (pv 0) (pv 4)))) pa_nil)))), ?_⟩
    refine ⟨_, rfl, _, rfl, _, rfl, n, i, t, rfl, hi, hn, ht, fun H1 q1 s1 n1 g1 => ?_⟩
    have hl := waysFrom_length n t (single n i) (single_length n i)
    have eu := unlike_row n i t
    generalize waysFrom n t (single n i) = v at g1 hl eu
    refine ⟨_, rfl, _, _, rfl, rfl, _, rfl, by omega, by omega, fun D nD => ?_⟩
    rw [toNat_succ]
    have keepD : ∀ x : HO, Same H1 (upd H1 D x) := fun x => (Same.refl H1).upd nD x
    refine lc_range0 (n := n + 1) (fun m H' => H' = upd H1 D (.lst (nv ((List.range m).map fun j => v.getD j 0 * j * (n - j))))) rfl ?_ ?_
    · rintro m H' hm rfl
      have hb : (m : Int) < 2 ^ 64 := by omega
      refine ⟨rfl, yes (iteT ⟨_, rfl, _, rfl, q1, _, _, _, rfl, rfl, SqL.of (keepD _ _ _ g1), atI_nat (getD_get (by omega)), _, rfl, _, _, rfl, rfl, .inr ⟨by omega, by omega⟩, _, rfl, _, rfl, _, _, rfl, rfl, _, _, rfl, rfl, .inr ⟨by omega, by omega⟩, _, upd_same, ?_, ?_⟩)⟩
      · rw [nv_length, List.length_map, List.length_range]
        exact Nat.lt_of_lt_of_le (show m < 1000 by omega) (line_of (Nat.le_refl _))
      · rw [upd_upd, List.range_succ, List.map_append]
        have e : nv ((List.range m).map (fun j => v.getD j 0 * j * (n - j)) ++ [m].map fun j => v.getD j 0 * j * (n - j)) = nv ((List.range m).map fun j => v.getD j 0 * j * (n - j)) ++ [V.int ((v.getD m 0 : Int) * (m : Int) * ((n : Int) - (m : Int)))] := by
          unfold nv
          rw [List.map_append, ← Int.ofNat_sub (show m ≤ n by omega), ← Int.natCast_mul, ← Int.natCast_mul]; rfl
        rw [e]
    · rintro H' rfl
      refine ⟨D, _, rfl, SqL.of (by rw [upd_same, nv_iv]; rfl), ?_⟩
      rw [row_map_sum]
      have eu : ((List.range (n + 1)).map fun j => v.getD j 0 * j * (n - j)).sum = unlike n i t := eu.symm
      rw [eu]
      exact k _ (s1.trans (keepD _))
theorem le_sum : ∀ {l : List Nat} {x : Nat}, x ∈ l → x ≤ l.sum
  | y :: l, x, h => by
    rw [List.sum_cons]
    rcases List.mem_cons.mp h with rfl | h
    · omega
    · have := le_sum h
      omega
def spToward (K : PySem.W.Frag) : Sp := fun vs H Q _ => ∃ (n : Nat) (a b : Addr) (c d : List Nat), vs = [.int (n : Int), .ref a, .ref b] ∧ n ≤ 15 ∧ SqL K H a (nv c) ∧ SqL K H b (nv d) ∧ c.length = d.length ∧ c.length ≤ 10 ∧ c.sum = n ∧ d.sum = n ∧ Q (.int (toward n c d : Int)) H
theorem ok_count_toward (F : Fn K mg "count_toward" "count_toward" s_count_toward ["n", "old_amounts", "new_amounts"]) (hC : Has P w K mg base 1 "choose" ["size", "amount"] spChoose) (hP : Has P w K mg base 1 "power" ["base", "exponent"] spPower) (nRange : mg "range" = none) (nLen : mg "len" = none) :
    Has P w K mg base 2 "count_toward" ["n", "old_amounts", "new_amounts"] (spToward K) := by
  refine F.has (k := 1) sc_count_toward (fun vs H Q E h => ?_) (fun f cdv A outer s H vs Q E hr h => ?_)
  · obtain ⟨n, a, b, c, d, rfl, _⟩ := h
    rfl
  · obtain ⟨n, a, b, c, d, rfl, hn, hA, hB, hcd, hc10, hsc, hsd, k⟩ := h
    refine ⟨_, pss_cons (ps_set (i := 3) sc_count_toward.nd rfl (Or.inl rfl) pe_int)
      (pss_cons (ps_set (i := 4) sc_count_toward.nd rfl (Or.inl rfl) (pv 0))
      (pss_cons (ps_for PassesOwn.never rfl (pi_range1 rfl nRange (pa_cons (pe_callB call_len_seq (by rfl) nLen PySem.boot_len (pa_cons (pv 1) pa_nil)) pa_nil)) (pg_name (i := 5) sc_count_toward.nd rfl (Or.inl rfl))
        (pss_cons (ps_set (i := 6) sc_count_toward.nd rfl (Or.inl rfl) (pe_ix ix_list (pv 2) (pv 5) (fun _ _ => rfl)))
        (pss_cons (ps_set (i := 3) sc_count_toward.nd rfl (Or.inl rfl) (pe_op op_mul (pe_op op_mul (pv 3) (pe_fn hC hr rfl (pa_cons (pv 4) (pa_cons (pv 6) pa_nil)))) (pe_fn hP hr rfl (pa_cons (pe_ix ix_list (pv 1) (pv 5) (fun _ _ => rfl)) (pa_cons (pv 6) pa_nil)))))
        (pss_one (ps_aug (i := 4) sc_count_toward.nd rfl (Or.inl rfl) (pv 6) ip_sub)))))
      (pss_one (ps_ret (pv 3))))), ?_⟩
    refine ⟨_, rfl, _, rfl, a, _, rfl, .inl hA, _, rfl, ?_, ?_, ?_⟩
    · rw [nv_length]; omega
    · rw [nv_length]; omega
    rw [Int.toNat_natCast, nv_length]
    refine for_range0 (n := c.length) (fun m σ H' => ∃ (x y : Option V) (r : Nat), σ = [some (.int (n : Int)), some (.ref a), some (.ref b), some (.int (r : Int)), some (.int ((n - (d.take m).sum : Nat) : Int)), x, y] ∧ H' = H ∧ r * toward (n - (d.take m).sum) (c.drop m) (d.drop m) = toward n c d)
      ⟨none, none, 1, rfl, rfl, by rw [Nat.one_mul]; rfl⟩ ?_ ?_
    · rintro m σ H' hm ⟨x, y, r, rfl, rfl, e⟩
      have g1 := getD_get' (l := c) (j := m) hm
      have g2 := getD_get' (l := d) (j := m) (by omega)
      have hx : c.getD m 0 ≤ c.sum := le_sum (List.mem_of_getElem? g1)
      have hst := sum_take_succ g2
      have hle := sum_take_le d (m + 1)
      rw [toward_step g1 g2] at e
      generalize c.getD m 0 = x1 at g1 hx e
      generalize d.getD m 0 = y1 at g2 hst e
      have hch : choose (n - (d.take m).sum) y1 < 2 ^ 64 := Nat.lt_of_le_of_lt (choose_le _ _) (Nat.lt_of_le_of_lt (Nat.pow_le_pow_right (by decide) (show n - (d.take m).sum ≤ 15 by omega)) (by decide))
      have hpw := pow_le64 (b := x1) (e := y1) (by omega) (by omega)
      refine ⟨_, rfl, _, rfl, b, _, _, _, rfl, rfl, hB, atI_nat (nv_at g2), _, rfl, _, rfl, _, rfl, n - (d.take m).sum, y1, rfl, by omega, by omega, _, _, rfl, rfl, .inr (mul64 hch), _, rfl, _, rfl, a, _, _, _, rfl, rfl, hA, atI_nat (nv_at g1), _, rfl, (x1 : Int), y1, rfl, ⟨by omega, by omega⟩, by omega, _, _, rfl, rfl, .inr ?_, _, rfl, _, rfl, _, _, rfl, rfl, some (.int (m : Int)), some (.int (y1 : Int)), r * choose (n - (d.take m).sum) y1 * x1 ^ y1, ?_, rfl, ?_⟩
      · rw [← Int.natCast_pow]; exact mul64 hpw
      · have e1 : (((n - (d.take m).sum : Nat) : Int) - (y1 : Int)) = ((n - (d.take (m + 1)).sum : Nat) : Int) := by omega
        rw [Int.natCast_mul, Int.natCast_mul, Int.natCast_pow, ← e1]
        rfl
      · rw [← e, hst]
        have e2 : n - ((d.take m).sum + y1) = n - (d.take m).sum - y1 := by omega
        rw [e2]
        simp only [Nat.mul_assoc]
    · rintro σ H' ⟨x, y, r, rfl, rfl, e⟩
      have e0 : n - (d.take c.length).sum = 0 := by rw [hcd, List.take_length]; omega
      rw [e0, toward_end c d rfl, Nat.mul_one] at e
      refine ⟨_, rfl, ?_⟩
      rw [e]; exact k
end
end Gd
end
section
set_option Elab.async false
set_option maxRecDepth 100000
set_option maxHeartbeats 2000000
set_option linter.all false
namespace Gd
open PySem PySem.Spec PyProof.Rows L2
open Vbecaj (choose falling parts ways1 later single waysFrom ways firstFrom first before mergeFrom merge unlike toward takes lowest)
section
variable {P : Program} {w : World} {K : PySem.W.Frag} {mg : Str → Option Value} {base : Heap} {C : Addr}
def spMore (K : PySem.W.Frag) : Sp := fun vs H Q _ => ∃ (n m j : Nat) (c : Addr), vs = [.int (n : Int), .ref c, .int (j : Int)] ∧ n ≤ 15 ∧ j ≤ n ∧ SqL K H c (nv (row n fun k => surj n m k)) ∧ Q (.int (surj n (m + 1) j : Int)) H
theorem ok_count_with_one_more (F : Fn K mg "count_with_one_more" "count_with_one_more" s_count_with_one_more ["n", "counts", "k"]) : Has P w K mg base 1 "count_with_one_more" ["n", "counts", "k"] (spMore K) := by
  refine F.has (k := 0) sc_count_with_one_more (fun vs H Q E h => ?_) (fun f cdv A outer s H vs Q E hr h => ?_)
  · obtain ⟨n, m, j, c, rfl, _⟩ := h
    rfl
  · obtain ⟨n, m, j, c, rfl, hn, hj, hC, q⟩ := h
    refine ⟨_, pss_cons (ps_set (i := 3) sc_count_with_one_more.nd rfl (Or.inl rfl) (pe_op op_mul (pe_ix ix_list (pv 1) (pv 2) (fun _ _ => rfl)) (pv 2)))
      (pss_cons (ps_if (pt_cmpR op_eq (pv 2) pe_int (nomark _)) (pss_one (ps_ret (pv 3))) pss_nil)
      (pss_one (ps_ret (pe_op op_add (pv 3) (pe_op op_mul (pe_ix ix_list (pv 1) (pe_op op_sub (pv 2) pe_int) (fun _ _ => rfl)) (pe_op op_sub (pv 0) (pe_op op_sub (pv 2) pe_int))))))), ?_⟩
    refine ⟨_, rfl, _, rfl, c, _, _, _, rfl, rfl, hC, atI_nat (nv_at (row_get _ hj)), _, rfl, _, _, rfl, rfl, .inr ⟨by omega, by omega⟩, _, rfl, rfl, _, rfl, ?_⟩
    cases j with
    | zero =>
      rw [decide_eq_true (show V.int ((0 : Nat) : Int) = V.int 0 from rfl)]
      refine iteT ⟨_, rfl, ?_⟩
      rw [surj_succ0] at q
      show Q (V.int ((surj n m 0 : Int) * 0)) H
      rw [Int.mul_zero]; exact q
    | succ j =>
      rw [decide_eq_false (show ¬ V.int ((j + 1 : Nat) : Int) = V.int 0 from fun z => by have := V.int.inj z; omega)]
      refine iteF ⟨_, rfl, _, rfl, _, rfl, _, _, rfl, rfl, c, _, _, _, rfl, rfl, hC, at_of (j := j) (show ((j + 1 : Nat) : Int) - 1 = (j : Int) by omega) (nv_at (row_get _ (show j ≤ n by omega))), _, rfl, _, rfl, _, _, rfl, rfl, _, _, rfl, rfl, _, _, rfl, rfl, .inr ⟨by omega, by omega⟩, _, _, rfl, rfl, ?_⟩
      show Q (V.int ((surj n m (j + 1) : Int) * ((j + 1 : Nat) : Int) + (surj n m j : Int) * ((n : Int) - (((j + 1 : Nat) : Int) - 1)))) H
      have e1 : (n : Int) - (((j + 1 : Nat) : Int) - 1) = ((n - j : Nat) : Int) := by omega
      rw [e1, ← Int.natCast_mul, ← Int.natCast_mul, ← Int.natCast_add, ← surj_succ]
      exact q
theorem start_parents (n : Nat) : [V.int 1] ++ (List.replicate (n : Int).toNat [V.int 0]).flatten = nv (row n fun k => surj n 0 k) := by
  rw [Int.toNat_natCast, List.flatten_replicate_singleton]
  have e : row n (fun k => surj n 0 k) = 1 :: List.replicate n 0 := by
    unfold row
    rw [List.range_succ_eq_map, List.map_cons, List.map_map]
    have : ((fun k => surj n 0 k) ∘ Nat.succ) = fun _ => 0 := funext fun k => by
      show surj n 0 (k + 1) = 0
      rw [surj_zero, if_neg (by omega)]
    rw [this, List.map_const', List.length_range, surj_zero, if_pos rfl]
  rw [e]
  unfold nv
  rw [List.map_cons, List.map_replicate]; rfl
theorem row_snoc (g : Nat → Nat) (m : Nat) : nv ((List.range (m + 1)).map g) = nv ((List.range m).map g) ++ [V.int (g m : Nat)] := by
  unfold nv
  rw [List.range_succ, List.map_append, List.map_append]; rfl
def spParentsN : Sp := fun vs H Q _ => ∃ n m : Nat, vs = [.int (n : Int), .int (m : Int)] ∧ n ≤ 15 ∧ m ≤ n ∧ ∀ H' q, Same H H' → H q = none → H' q = some (.lst (nv (row n fun k => surj n m k))) → Q (.ref q) H'
theorem ok_count_parents (F : Fn K mg "count_parents" "count_parents" s_count_parents ["n", "m"]) (hM : Has P w K mg base 1 "count_with_one_more" ["n", "counts", "k"] (spMore K)) (nRange : mg "range" = none) : Has P w K mg base 2 "count_parents" ["n", "m"] spParentsN := by
  refine F.has (k := 1) sc_count_parents (fun vs H Q E h => ?_) (fun f cdv A outer s H vs Q E hr h => ?_)
  · obtain ⟨n, m, rfl, _⟩ := h
    rfl
  · obtain ⟨n, m, rfl, hn, hm, k⟩ := h
    refine ⟨_, pss_cons (ps_set (i := 2) sc_count_parents.nd rfl (Or.inr rfl) (pe_op op_cat (pe_lst (pa_cons pe_int pa_nil)) (pe_op op_rep (pe_lst (pa_cons pe_int pa_nil)) (pv 0))))
      (pss_cons (ps_for PassesOwn.never rfl (pi_range1 rfl nRange (pa_cons (pv 1) pa_nil)) (pg_name (i := 3) sc_count_parents.nd rfl (Or.inl rfl))
        (pss_one (ps_set (i := 2) sc_count_parents.nd rfl (Or.inr rfl) (pe_lc (own := [("k", 4)]) rfl sc_count_parents.nd (pi_range1 rfl nRange (pa_cons (pe_op op_add (pv 0) pe_int) pa_nil)) (blkOk_by (by rfl)) (fun _ _ _ _ _ => pg_name (i := 4) sc_count_parents.nd rfl (Or.inl rfl)) (fun _ _ _ _ _ => pts_nil)
          (fun _ _ _ _ _ => pe_fn hM hr rfl (pa_cons (pv 0) (pa_cons (pv 2) (pa_cons (pv 4) pa_nil))))))))
      (pss_one (ps_ret (pv 2)))), ?_⟩
    refine ⟨one_line, fun l nl => ⟨one_line, fun l2 nl2 => ⟨_, rfl, l2, _, _, rfl, rfl, upd_same, by omega, by omega, ?_, fun l3 nl3 => ?_⟩⟩⟩
    · rw [Int.toNat_natCast]
      exact line_of (by show 1 * n ≤ 1000; omega)
    have s1 : Same H (upd H l (.lst [V.int 1])) := (Same.refl H).upd nl _
    have g1 : upd H l (.lst [V.int 1]) l = some (.lst [V.int 1]) := upd_same
    generalize upd H l (.lst [V.int 1]) = H1 at s1 g1 nl2 nl3 ⊢
    have s2 : Same H1 (upd H1 l2 (.lst [V.int 0])) := (Same.refl H1).upd nl2 _
    generalize upd H1 l2 (.lst [V.int 0]) = H2 at s2 nl3 ⊢
    have s3 : Same H2 (upd H2 l3 (.lst (List.replicate (n : Int).toNat [V.int 0]).flatten)) := (Same.refl H2).upd nl3 _
    refine ⟨l, l3, _, _, rfl, rfl, s3 _ _ (s2 _ _ g1), upd_same, ?_, fun p np => ?_⟩
    · rw [Int.toNat_natCast, List.flatten_replicate_singleton, List.length_replicate]
      exact line_of (by show 1 + n ≤ 1000; omega)
    rw [start_parents]
    generalize upd H2 l3 (.lst (List.replicate (n : Int).toNat [V.int 0]).flatten) = H3 at s3 np ⊢
    have s4 := (s1.trans s2).trans s3
    have n4 : H p = none := s4.free np
    refine ⟨_, rfl, _, rfl, by omega, by omega, ?_⟩
    rw [Int.toNat_natCast]
    refine for_range0 (n := m) (fun i σ H' => ∃ (x y : Option V) (q : Addr), σ = [some (.int (n : Int)), some (.int (m : Int)), some (.ref q), x, y] ∧ Same H H' ∧ H q = none ∧ H' q = some (.lst (nv (row n fun k => surj n i k))))
      ⟨none, none, p, rfl, s4.upd n4 _, n4, upd_same⟩ ?_ ?_
    · rintro i σ H' hi ⟨x, y, q, rfl, sm, nq, hq⟩
      refine ⟨_, rfl, _, _, rfl, rfl, _, rfl, by omega, by omega, fun D nD => ?_⟩
      rw [toNat_succ]
      refine lc_range0 (n := n + 1) (fun j H2 => H2 = upd H' D (.lst (nv ((List.range j).map fun k => surj n (i + 1) k)))) rfl ?_ ?_
      · rintro j H2 hj rfl
        refine ⟨rfl, yes (iteT ⟨_, rfl, _, rfl, _, rfl, n, i, j, q, rfl, hn, by omega, SqL.of (((Same.refl H').upd nD _) _ _ hq), _, upd_same, ?_, ?_⟩)⟩
        · rw [nv_length, List.length_map, List.length_range]
          exact Nat.lt_of_lt_of_le (show j < 1000 by omega) (line_of (Nat.le_refl _))
        · rw [upd_upd, row_snoc]
      · rintro H2 rfl
        exact ⟨_, _, D, rfl, sm.trans ((Same.refl H').upd nD _), sm.free nD, upd_same⟩
    · rintro σ H' ⟨x, y, q, rfl, sm, nq, hq⟩
      exact ⟨_, rfl, k H' q sm nq hq⟩
def spEarlier (K : PySem.W.Frag) : Sp := fun vs H Q _ => ∃ (n : Nat) (c : Addr) (v : List Nat), vs = [.int (n : Int), .ref c] ∧ n ≤ 15 ∧ SqL K H c (nv v) ∧ v.length = n + 1 ∧ ∀ H' q, Same H H' → H q = none → H' q = some (.lst (nv (before n v))) → Q (.ref q) H'
theorem ok_counts_one_earlier (F : Fn K mg "counts_one_earlier" "counts_one_earlier" s_counts_one_earlier ["n", "counts"]) (hP : Has P w K mg base 1 "power" ["base", "exponent"] spPower) (hN : Has P w K mg base 2 "count_parents" ["n", "m"] spParentsN) (nRange : mg "range" = none) :
    Has P w K mg base 3 "counts_one_earlier" ["n", "counts"] (spEarlier K) := by
  refine F.has (k := 2) sc_counts_one_earlier (fun vs H Q E h => ?_) (fun f cdv A outer s H vs Q E hr h => ?_)
  · obtain ⟨n, c, v, rfl, _⟩ := h
    rfl
  · obtain ⟨n, c, v, rfl, hn, hC, hv, k⟩ := h
    have hr1 : Room 1 _ := hr.mono (by decide)
    refine ⟨_, pss_cons (ps_set (i := 2) sc_counts_one_earlier.nd rfl (Or.inl rfl) (pe_op op_rep (pe_lst (pa_cons pe_int pa_nil)) (pe_op op_add (pv 0) pe_int)))
      (pss_cons (ps_for PassesOwn.never rfl (pi_range1 rfl nRange (pa_cons (pe_op op_add (pv 0) pe_int) pa_nil)) (pg_name (i := 3) sc_counts_one_earlier.nd rfl (Or.inl rfl))
        (pss_one (ps_if (pt_cmpR op_gt (pe_ix ix_list (pv 1) (pv 3) (fun _ _ => rfl)) pe_int (nomark _))
          (pss_cons (ps_set (i := 4) sc_counts_one_earlier.nd rfl (Or.inl rfl) (pe_fn hP hr1 rfl (pa_cons (pv 0) (pa_cons (pe_op op_sub (pv 0) (pv 3)) pa_nil))))
          (pss_cons (ps_set (i := 5) sc_counts_one_earlier.nd rfl (Or.inl rfl) (pe_fn hN hr rfl (pa_cons (pv 0) (pa_cons (pv 3) pa_nil))))
          (pss_one (ps_for PassesOwn.never rfl (pi_range1 rfl nRange (pa_cons (pe_op op_add (pv 0) pe_int) pa_nil)) (pg_name (i := 6) sc_counts_one_earlier.nd rfl (Or.inl rfl))
            (pss_one (ps_augS (pv 2) (pv 6) get_list (pe_op op_mul (pe_op op_mul (pe_ix ix_list (pv 1) (pv 3) (fun _ _ => rfl)) (pe_ix ix_list (pv 5) (pv 6) (fun _ _ => rfl))) (pv 4)) ip_add set_list))))))
          pss_nil)))
      (pss_one (ps_ret (pv 2)))), ?_⟩
    refine ⟨one_line, fun l nl => ⟨_, rfl, _, _, rfl, rfl, l, _, _, rfl, rfl, upd_same, by omega, by omega, ?_, fun p np => ?_⟩⟩
    · rw [toNat_succ]
      exact line_of (by show 1 * (n + 1) ≤ 1000; omega)
    · rw [rep_zero]
      have s1 : Same H (upd H l (.lst [V.int 0])) := (Same.refl H).upd nl _
      have n1 : H p = none := s1.free np
      refine ⟨_, rfl, _, _, rfl, rfl, _, rfl, by omega, by omega, ?_⟩
      rw [toNat_succ]
      refine for_range0 (n := n + 1) (fun m σ H' => ∃ (x y z u : Option V), σ = [some (.int (n : Int)), some (.ref c), some (.ref p), x, y, z, u] ∧ Same H H' ∧ H' p = some (.lst (nv (part n m v fun l k => parts l k * falling n k * n ^ (n - l)))))
        ⟨none, none, none, none, rfl, s1.upd n1 _, by rw [part_zero]; exact upd_same⟩ ?_ ?_
      · rintro m σ H' hm ⟨x, y, z, u, rfl, sm, hp⟩
        have hcm : (nv v)[m]? = some (.int (v.getD m 0 : Nat)) := getD_get (by omega)
        refine ⟨_, rfl, _, rfl, c, _, _, _, rfl, rfl, sm.seq hC, atI_nat hcm, _, _, rfl, rfl, _, rfl, ?_⟩
        refine ite2 (fun h1 => ?_) (fun h1 => ?_)
        · refine ⟨_, rfl, _, rfl, _, rfl, _, _, rfl, rfl, (n : Int), n - m, ?_, ⟨by omega, by omega⟩, by omega, ?_⟩
          · rw [Int.ofNat_sub (show m ≤ n by omega)]; rfl
          have hpw := pow_le64 (b := n) (e := n - m) hn (by omega)
          rw [← Int.natCast_pow]
          refine ⟨_, rfl, _, rfl, n, m, rfl, hn, by omega, fun H1 q1 t1 m1 g1 => ?_⟩
          have hp1 := t1 _ _ hp
          have sm1 := sm.trans t1
          refine ⟨_, rfl, _, _, rfl, rfl, _, rfl, by omega, by omega, ?_⟩
          rw [toNat_succ]
          have nqp : q1 ≠ p := fun e => by rw [e, hp] at m1; cases m1
          refine for_range0 (n := n + 1) (fun j σ H' => ∃ (y : Option V), σ = [some (.int (n : Int)), some (.ref c), some (.ref p), some (.int (m : Int)), some (.int ((n ^ (n - m) : Nat) : Int)), some (.ref q1), y] ∧ Same H H' ∧ H' q1 = some (.lst (nv (row n fun k => surj n m k))) ∧ H' p = some (.lst (nv (partIn n m j v fun l k => parts l k * falling n k * n ^ (n - l)))))
            ⟨_, rfl, sm1, g1, by rw [partIn_zero]; exact hp1⟩ ?_ ?_
          · rintro j σ H2 hj ⟨y, rfl, sm2, g2, hp2⟩
            have hs : surj n m j < 2 ^ 64 := Nat.lt_of_le_of_lt (surj_le n m j) (Nat.lt_of_le_of_lt (Nat.le_trans (Nat.pow_le_pow_left (show n + 1 ≤ 16 by omega) m) (Nat.pow_le_pow_right (by decide) (show m ≤ 15 by omega))) (by decide))
            refine ⟨_, rfl, _, rfl, p, _, j, _, rfl, rfl, SqL.of hp2, nv_at (partIn_get v _ (by omega)), _, rfl, _, rfl, c, _, _, _, rfl, rfl, sm2.seq hC, atI_nat hcm, _, rfl, _, rfl, q1, _, _, _, rfl, rfl, SqL.of g2, atI_nat (nv_at (row_get _ (show j ≤ n by omega))), _, _, rfl, rfl, .inr (mul64 hs), _, rfl, _, _, rfl, rfl, .inr (mul64 hpw), _, _, rfl, rfl,
              p, _, _, j, rfl, rfl, hp2, ixN_nat (by rw [nv_length, partIn_length]; omega), _, rfl, sm2.upd n1 _, (upd_ne nqp).trans g2, ?_⟩
            rw [upd_same]
            have e := part_put (n := n) (m := m) (j := j) (v := v) (u := fun l k => parts l k * falling n k * n ^ (n - l)) (by omega)
            have e2 : (((v.getD m 0 * (parts m j * falling n j * n ^ (n - m)) : Nat)) : Int) = (v.getD m 0 : Int) * (surj n m j : Int) * ((n ^ (n - m) : Nat) : Int) := by
              rw [← Int.natCast_mul, ← Int.natCast_mul]
              unfold surj
              simp only [Nat.mul_assoc]
            rw [e2] at e
            exact congrArg (fun x => some (HO.lst x)) e
          · rintro σ H2 ⟨y, rfl, sm2, g2, hp2⟩
            refine ⟨_, _, _, _, rfl, sm2, ?_⟩
            rw [← partIn_all]; exact hp2
        · refine ⟨_, _, _, _, rfl, sm, ?_⟩
          have h1 : ¬ (0 : Int) < (v.getD m 0 : Nat) := fun z => h1 (decide_eq_true z)
          rw [part_skip (by omega)]; exact hp
      · rintro σ H' ⟨x, y, z, u, rfl, sm, hp⟩
        exact ⟨_, rfl, k H' p sm n1 hp⟩
def spMerge : Sp := fun vs H Q _ => ∃ n m t : Nat, vs = [.int (n : Int), .int (m : Int), .int (t : Int)] ∧ m ≤ n ∧ n ≤ 15 ∧ t ≤ 20 ∧ ∀ H' q, Same H H' → H q = none → H' q = some (.lst (nv (mergeFrom n t (single n m)))) → Q (.ref q) H'
theorem ok_count_merge (F : Fn K mg "count_merge" "count_merge" s_count_merge ["n", "m", "t"]) (hE : Has P w K mg base 3 "counts_one_earlier" ["n", "counts"] (spEarlier K)) (nRange : mg "range" = none) : Has P w K mg base 4 "count_merge" ["n", "m", "t"] spMerge := by
  refine F.has (k := 3) sc_count_merge (fun vs H Q E h => ?_) (fun f cdv A outer s H vs Q E hr h => ?_)
  · obtain ⟨n, m, t, rfl, _⟩ := h
    rfl
  · obtain ⟨n, m, t, rfl, hm, hn, ht, k⟩ := h
    refine ⟨_, pss_cons (ps_set (i := 3) sc_count_merge.nd rfl (Or.inl rfl) (pe_op op_rep (pe_lst (pa_cons pe_int pa_nil)) (pe_op op_add (pv 0) pe_int)))
      (pss_cons (ps_asg pe_int (pg_sub (pv 3) (pv 1) set_list))
      (pss_cons (ps_for PassesOwn.never rfl (pi_range1 rfl nRange (pa_cons (pv 2) pa_nil)) (pg_name (i := 4) sc_count_merge.nd rfl (Or.inl rfl))
        (pss_one (ps_set (i := 3) sc_count_merge.nd rfl (Or.inl rfl) (pe_fn hE hr rfl (pa_cons (pv 0) (pa_cons (pv 3) pa_nil))))))
      (pss_one (ps_ret (pv 3))))), ?_⟩
    refine ⟨one_line, fun l nl => ⟨_, rfl, _, _, rfl, rfl, l, _, _, rfl, rfl, upd_same, by omega, by omega, ?_, fun p np => ?_⟩⟩
    · rw [toNat_succ]
      exact line_of (by show 1 * (n + 1) ≤ 1000; omega)
    rw [rep_zero]
    have s1 : Same H (upd H l (.lst [V.int 0])) := (Same.refl H).upd nl _
    have n1 : H p = none := s1.free np
    refine ⟨_, rfl, _, rfl, p, _, _, m, rfl, rfl, upd_same, ixN_nat (by rw [nv_length, row_length]; omega), ?_⟩
    rw [single_set hm]
    refine ⟨_, rfl, _, rfl, by omega, by omega, ?_⟩
    rw [Int.toNat_natCast]
    refine for_range0 (n := t) (fun i σ H' => ∃ (x : Option V) (q : Addr) (v : List Nat), σ = [some (.int (n : Int)), some (.int (m : Int)), some (.int (t : Int)), some (.ref q), x] ∧ Same H H' ∧ H q = none ∧ H' q = some (.lst (nv v)) ∧ v.length = n + 1 ∧ mergeFrom n (t - i) v = mergeFrom n t (single n m))
      ⟨none, p, single n m, rfl, (s1.upd n1 _).upd n1 _, n1, upd_same, single_length n m, rfl⟩ ?_ ?_
    · rintro i σ H' hi ⟨x, q, v, rfl, sm, nq, hq, hv, e⟩
      refine ⟨_, rfl, _, rfl, n, q, v, rfl, hn, SqL.of hq, hv, fun H2 q2 s2 n2 g2 => ?_⟩
      refine ⟨_, q2, before n v, rfl, sm.trans s2, sm.free n2, g2, before_length n v, ?_⟩
      have e1 : t - i = (t - (i + 1)) + 1 := by omega
      rw [e1] at e
      exact e
    · rintro σ H' ⟨x, q, v, rfl, sm, nq, hq, hv, e⟩
      have e : v = mergeFrom n t (single n m) := by
        rw [Nat.sub_self] at e; exact e
      rw [e] at hq
      exact ⟨_, rfl, k H' q sm nq hq⟩
end
end Gd
end
section
set_option Elab.async false
set_option maxRecDepth 100000
set_option maxHeartbeats 2000000
set_option linter.all false
namespace Gd
open PySem PySem.Spec PyProof.Rows L2
open Vbecaj (takes lowest)
theorem gains_le {n a b : Nat} (hn : n ≤ 15) (ha : a ≤ 9) (hb : b ≤ 9) : ∀ {m : Nat}, m ≤ n → gains n a b m ≤ m * 9 ^ 14
  | 0, _ => by unfold gains; rw [sumTo_zero]; exact Nat.zero_le _
  | m + 1, h => by
    have ih := gains_le hn ha hb (m := m) (by omega)
    unfold gains at ih ⊢
    rw [sumTo_succ, Nat.succ_mul]
    refine Nat.add_le_add ih ?_
    refine Nat.le_trans (Nat.mul_le_mul (Nat.pow_le_pow_left hb m) (Nat.pow_le_pow_left ha (n - 1 - m))) ?_
    rw [← Nat.pow_add]
    exact Nat.pow_le_pow_right (by decide) (by omega)
theorem gains_lt {n a b m : Nat} (hn : n ≤ 15) (ha : a ≤ 9) (hb : b ≤ 9) (hm : m ≤ n) : gains n a b m < 2 ^ 64 :=
  Nat.lt_of_le_of_lt (gains_le hn ha hb hm) (Nat.lt_of_le_of_lt (Nat.mul_le_mul_right _ (show m ≤ 15 by omega)) (by decide))
theorem two_line : 2 ≤ sizeLine := line_of (by decide)
theorem three_line : 3 ≤ sizeLine := line_of (by decide)
section
variable {P : Program} {w : World} {K : PySem.W.Frag} {mg : Str → Option Value} {base : Heap} {C : Addr}
def spLowest : Sp := fun vs H Q _ => ∃ x y : Nat, vs = [.int (x : Int), .int (y : Int)] ∧ 0 < y ∧ x < 2 ^ 64 ∧ y < 2 ^ 64 ∧ ∀ q, H q = none → Q (.ref q) (upd H q (.lst (iv [((lowest (x, y)).1 : Int), ((lowest (x, y)).2 : Int)])))
theorem ok_lowest_terms (F : Fn K mg "lowest_terms" "lowest_terms" s_lowest_terms ["top", "bottom"]) : Has P w K mg base 1 "lowest_terms" ["top", "bottom"] spLowest := by
  refine F.has (k := 0) sc_lowest_terms (fun vs H Q E h => ?_) (fun f cdv A outer s H vs Q E hr h => ?_)
  · obtain ⟨x, y, rfl, _⟩ := h
    rfl
  · obtain ⟨x, y, rfl, hy, hx2, hy2, k⟩ := h
    refine ⟨_, pss_cons (ps_set (i := 2) sc_lowest_terms.nd rfl (Or.inl rfl) (pv 1))
      (pss_cons (ps_set (i := 3) sc_lowest_terms.nd rfl (Or.inl rfl) (pv 0))
      (pss_cons (ps_while PassesOwn.never (pt_cmpR op_gt (pv 3) pe_int (nomark _))
        (pss_cons (ps_set (i := 4) sc_lowest_terms.nd rfl (Or.inl rfl) (pe_op op_mod (pv 2) (pv 3)))
        (pss_cons (ps_set (i := 2) sc_lowest_terms.nd rfl (Or.inl rfl) (pv 3))
        (pss_one (ps_set (i := 3) sc_lowest_terms.nd rfl (Or.inl rfl) (pv 4))))))
      (pss_one (ps_ret (pe_lst (pa_cons (pe_op op_fdivB (pv 0) (pv 2)) (pa_cons (pe_op op_fdivB (pv 1) (pv 2)) pa_nil))))))), ?_⟩
    refine ⟨_, rfl, _, rfl, ?_⟩
    refine ⟨fun m σ H' => ∃ (d r : Nat) (v : Option V), m = r ∧ σ = [some (.int (x : Int)), some (.int (y : Int)), some (.int (d : Int)), some (.int (r : Int)), v] ∧ H' = H ∧ 0 < d ∧ d < 2 ^ 64 ∧ r < 2 ^ 64 ∧ Nat.gcd r d = Nat.gcd x y,
      ⟨_, y, x, none, rfl, rfl, rfl, hy, hy2, hx2, rfl⟩, ?_⟩
    rintro m σ H' ⟨d, r, v, rfl, rfl, rfl, hd, hd2, hr2, e⟩
    refine ⟨_, rfl, _, _, rfl, rfl, _, rfl, ?_⟩
    refine ite2 (fun h1 => ?_) (fun h1 => ?_)
    · have h1 : (0 : Int) < (m : Int) := of_decide_eq_true h1
      have h1' : 0 < m := by omega
      refine ⟨fun σ' H2 => σ' = [some (.int (x : Int)), some (.int (y : Int)), some (.int (m : Int)), some (.int ((d % m : Nat) : Int)), some (.int ((d % m : Nat) : Int))] ∧ H2 = H',
        fun σ' H2 ⟨e1, e2⟩ => ⟨d % m, Nat.mod_lt _ h1', m, d % m, _, rfl, e1, e2, h1', hr2, Nat.lt_trans (Nat.mod_lt _ h1') hr2, by rw [← Nat.gcd_rec]; exact e⟩, ?_⟩
      refine ⟨_, rfl, _, rfl, _, _, rfl, rfl, h1, _, rfl, _, rfl, ?_, rfl⟩
      rfl
    · have h1 : ¬ (0 : Int) < (m : Int) := fun z => h1 (decide_eq_true z)
      have h0 : m = 0 := by omega
      subst h0
      rw [Nat.gcd_zero_left] at e
      refine ⟨_, rfl, _, rfl, _, _, rfl, rfl, ⟨by omega, by omega⟩, _, rfl, _, rfl, _, _, rfl, rfl, ⟨by omega, by omega⟩, two_line, fun q nq => ?_⟩
      have el := lowest_pos (x := x) hy
      have := k q nq
      rw [el, ← e] at this
      exact this
def spTakeOver : Sp := fun vs H Q _ => ∃ n i a b : Nat, vs = [.int (n : Int), .int (i : Int), .int (a : Int), .int (b : Int)] ∧ 0 < n ∧ n ≤ 15 ∧ i ≤ n ∧ 0 < a ∧ a ≤ 9 ∧ 0 < b ∧ b ≤ 9 ∧ ∀ q, H q = none → Q (.ref q) (upd H q (.lst (iv [((lowest (takes n i a b)).1 : Int), ((lowest (takes n i a b)).2 : Int)])))
theorem ok_chance_to_take_over (F : Fn K mg "chance_to_take_over" "chance_to_take_over" s_chance_to_take_over ["n", "i", "a", "b"]) (hP : Has P w K mg base 1 "power" ["base", "exponent"] spPower) (hL : Has P w K mg base 1 "lowest_terms" ["top", "bottom"] spLowest) (nRange : mg "range" = none) :
    Has P w K mg base 2 "chance_to_take_over" ["n", "i", "a", "b"] spTakeOver := by
  refine F.has (k := 1) sc_chance_to_take_over (fun vs H Q E h => ?_) (fun f cdv A outer s H vs Q E hr h => ?_)
  · obtain ⟨n, i, a, b, rfl, _⟩ := h
    rfl
  · obtain ⟨n, i, a, b, rfl, h0, hn, hi, ha0, ha, hb0, hb, k⟩ := h
    refine ⟨_, pss_cons (ps_set (i := 4) sc_chance_to_take_over.nd rfl (Or.inl rfl) pe_int)
      (pss_cons (ps_set (i := 5) sc_chance_to_take_over.nd rfl (Or.inl rfl) pe_int)
      (pss_cons (ps_for PassesOwn.never rfl (pi_range1 rfl nRange (pa_cons (pv 0) pa_nil)) (pg_name (i := 6) sc_chance_to_take_over.nd rfl (Or.inl rfl))
        (pss_cons (ps_set (i := 7) sc_chance_to_take_over.nd rfl (Or.inl rfl) (pe_op op_mul (pe_fn hP hr rfl (pa_cons (pv 3) (pa_cons (pv 6) pa_nil))) (pe_fn hP hr rfl (pa_cons (pv 2) (pa_cons (pe_op op_sub (pe_op op_sub (pv 0) pe_int) (pv 6)) pa_nil)))))
        (pss_cons (ps_aug (i := 5) sc_chance_to_take_over.nd rfl (Or.inl rfl) (pv 7) ip_add)
        (pss_one (ps_if (pt_cmpR op_lt (pv 6) (pv 1) (nomark _)) (pss_one (ps_aug (i := 4) sc_chance_to_take_over.nd rfl (Or.inl rfl) (pv 7) ip_add)) pss_nil)))))
      (pss_one (ps_ret (pe_fn hL hr rfl (pa_cons (pv 4) (pa_cons (pv 5) pa_nil))))))), ?_⟩
    refine ⟨_, rfl, _, rfl, by omega, by omega, ?_⟩
    rw [Int.toNat_natCast]
    refine for_range0 (n := n) (fun m σ H' => ∃ (x y : Option V), σ = [some (.int (n : Int)), some (.int (i : Int)), some (.int (a : Int)), some (.int (b : Int)), some (.int (gains n a b (min m i) : Nat)), some (.int (gains n a b m : Nat)), x, y] ∧ H' = H)
      ⟨none, none, by rw [Nat.zero_min]; rfl, rfl⟩ ?_ ?_
    · rintro m σ H' hm ⟨x, y, rfl, rfl⟩
      have hpw := pow_le64 (b := b) (e := m) (by omega) (by omega)
      have eg : ((b ^ m * a ^ (n - 1 - m) : Nat) : Int) = (b : Int) ^ m * (a : Int) ^ (n - 1 - m) := by rw [Int.natCast_mul, Int.natCast_pow, Int.natCast_pow]
      have es : gains n a b (m + 1) = gains n a b m + b ^ m * a ^ (n - 1 - m) := sumTo_succ m _
      refine ⟨_, rfl, _, rfl, (b : Int), m, rfl, ⟨by omega, by omega⟩, by omega, _, rfl, _, rfl, _, _, rfl, rfl, _, rfl, _, _, rfl, rfl, (a : Int), n - 1 - m, ?_, ⟨by omega, by omega⟩, by omega, _, _, rfl, rfl, .inl ?_, ?_⟩
      · have e : (n : Int) - 1 - (m : Int) = ((n - 1 - m : Nat) : Int) := by omega
        rw [← e]; rfl
      · rw [← Int.natCast_pow]; exact mul64 hpw
      refine ⟨_, rfl, _, rfl, _, _, rfl, rfl, _, rfl, _, rfl, _, _, rfl, rfl, _, rfl, ?_⟩
      refine ite2 (fun h1 => ?_) (fun h1 => ?_)
      · have h1 : (m : Int) < (i : Int) := of_decide_eq_true h1
        refine ⟨_, rfl, _, rfl, _, _, rfl, rfl, some (.int (m : Int)), some (.int ((b ^ m * a ^ (n - 1 - m) : Nat) : Int)), ?_, rfl⟩
        have m1 : min m i = m := by omega
        have m2 : min (m + 1) i = m + 1 := by omega
        rw [m2, es, Int.natCast_add, eg, m1]
        rfl
      · have h1 : ¬ (m : Int) < (i : Int) := fun z => h1 (decide_eq_true z)
        refine ⟨some (.int (m : Int)), some (.int ((b ^ m * a ^ (n - 1 - m) : Nat) : Int)), ?_, rfl⟩
        have m1 : min m i = i := by omega
        have m2 : min (m + 1) i = i := by omega
        rw [m2, es, Int.natCast_add, eg, m1]
        rfl
    · rintro σ H' ⟨x, y, rfl, rfl⟩
      have m1 : min n i = i := by omega
      rw [m1]
      refine ⟨_, rfl, _, rfl, gains n a b i, gains n a b n, rfl, gains_pos h0 ha0, gains_lt hn ha hb hi, gains_lt hn ha hb (Nat.le_refl n), fun q nq => ?_⟩
      rw [← lowest_takes hi ha0 hb0]
      exact k q nq
def spSteps : Sp := fun vs H Q _ => ∃ n i a b : Nat, vs = [.int (n : Int), .int (i : Int), .int (a : Int), .int (b : Int)] ∧ n ≤ 15 ∧ i ≤ n ∧ a ≤ 9 ∧ b ≤ 9 ∧
  ∀ q, H q = none → Q (.ref q) (upd H q (.lst (iv [((a * i * (n - i) : Nat) : Int), ((b * (n - i) * i : Nat) : Int), ((n * (a * i + b * (n - i)) : Nat) : Int)])))
theorem ok_step_chances (F : Fn K mg "step_chances" "step_chances" s_step_chances ["n", "i", "a", "b"]) : Has P w K mg base 1 "step_chances" ["n", "i", "a", "b"] spSteps := by
  refine F.has (k := 0) sc_step_chances (fun vs H Q E h => ?_) (fun f cdv A outer s H vs Q E hr h => ?_)
  · obtain ⟨n, i, a, b, rfl, _⟩ := h
    rfl
  · obtain ⟨n, i, a, b, rfl, hn, hi, ha, hb, k⟩ := h
    refine ⟨_, pss_cons (ps_set (i := 4) sc_step_chances.nd rfl (Or.inl rfl) (pe_op op_sub (pv 0) (pv 1)))
      (pss_one (ps_ret (pe_lst (pa_cons (pe_op op_mul (pe_op op_mul (pv 2) (pv 1)) (pv 4)) (pa_cons (pe_op op_mul (pe_op op_mul (pv 3) (pv 4)) (pv 1)) (pa_cons (pe_op op_mul (pv 0) (pe_op op_add (pe_op op_mul (pv 2) (pv 1)) (pe_op op_mul (pv 3) (pv 4)))) pa_nil)))))), ?_⟩
    refine ⟨_, rfl, _, rfl, _, _, rfl, rfl, ?_⟩
    refine ⟨_, rfl, _, rfl, _, _, rfl, rfl, .inr ⟨by omega, by omega⟩, _, rfl, _, _, rfl, rfl, .inr ⟨by omega, by omega⟩, ?_⟩
    refine ⟨_, rfl, _, rfl, _, _, rfl, rfl, .inr ⟨by omega, by omega⟩, _, rfl, _, _, rfl, rfl, .inr ⟨by omega, by omega⟩, ?_⟩
    refine ⟨_, rfl, _, rfl, _, rfl, _, _, rfl, rfl, .inr ⟨by omega, by omega⟩, _, rfl, _, rfl, _, _, rfl, rfl, .inr ⟨by omega, by omega⟩, _, _, rfl, rfl, _, _, rfl, rfl, .inl ⟨by omega, by omega⟩, three_line, fun q nq => ?_⟩
    have := k q nq
    rw [Int.natCast_mul, Int.natCast_mul, Int.natCast_mul, Int.natCast_mul, Int.natCast_mul, Int.natCast_add, Int.natCast_mul, Int.natCast_mul, Int.ofNat_sub hi] at this
    exact this
end
end Gd
end
section
set_option Elab.async false
set_option maxRecDepth 100000
set_option maxHeartbeats 2000000
set_option linter.all false
namespace Gd
open PySem PySem.Spec PyProof.Rows L2
open Vbecaj (State act withList withNum withCopies withTime bad)
def refusalOf (n : Nat) (l : List Int) (least t : Int) : List Int :=
  if inR least (n : Int) l = true ∧ (0 ≤ t ∧ t ≤ 20) then (if Vbecaj.MOST < Vbecaj.all n t.toNat then [-5] else []) else [-3]
theorem refusal_nil {n : Nat} {l : List Int} {least t : Int} (h : refusalOf n l least t = []) : inR least (n : Int) l = true ∧ (0 ≤ t ∧ t ≤ 20) ∧ ¬ Vbecaj.MOST < Vbecaj.all n t.toNat := by
  unfold refusalOf at h
  split at h
  · rename_i h1
    split at h
    · cases h
    · rename_i h2
      exact ⟨h1.1, h1.2, h2⟩
  · cases h
def orRef (s : State) (r : List Int) (o : Vbecaj.Out) : Vbecaj.Out := match r with
  | [] => o
  | _ => (s, r)
theorem inR_cons {lo hi x : Int} {l : List Int} : inR lo hi (x :: l) = true ↔ (lo ≤ x ∧ x ≤ hi) ∧ inR lo hi l = true := by
  unfold inR
  rw [List.all_cons, Bool.and_eq_true, decide_eq_true_iff]
theorem inR_nil {lo hi : Int} : inR lo hi [] = true := rfl
theorem withNum_ref {s : State} {n : Nat} {x least t : Int} {l : List Int} {o : Nat → Vbecaj.Out} {k : Nat → Vbecaj.Out} (h : ∀ m, k m = orRef s (refusalOf n l least t) (o m)) : withNum s x least (n : Int) k = orRef s (refusalOf n (x :: l) least t) (o x.toNat) := by
  by_cases h1 : least ≤ x ∧ x ≤ (n : Int)
  · rw [withNum_pos h1, h]
    have e : refusalOf n (x :: l) least t = refusalOf n l least t := by
      unfold refusalOf
      simp only [inR_cons, h1, and_self, true_and]
    rw [e]
  · rw [withNum_neg h1]
    have e : refusalOf n (x :: l) least t = [-3] := by
      unfold refusalOf
      rw [if_neg]
      rintro ⟨z, _⟩
      exact h1 (inR_cons.mp z).1
    rw [e]; rfl
theorem withTime_ref {s : State} {n : Nat} {least t : Int} {k : Nat → Vbecaj.Out} : withTime s n t k = orRef s (refusalOf n [] least t) (k t.toNat) := by
  unfold withTime
  by_cases h1 : 0 ≤ t ∧ t ≤ 20
  · rw [withNum_pos h1]
    have e : refusalOf n [] least t = if Vbecaj.MOST < Vbecaj.all n t.toNat then [-5] else [] := by
      unfold refusalOf
      exact if_pos ⟨inR_nil, h1⟩
    rw [e]
    by_cases h2 : Vbecaj.MOST < Vbecaj.all n t.toNat
    · rw [if_pos h2, if_pos h2]; rfl
    · rw [if_neg h2, if_neg h2]; rfl
  · rw [withNum_neg h1]
    unfold refusalOf
    rw [if_neg (fun z => h1 z.2)]; rfl
structure Ks2 (mg : Str → Option Value) : Prop where
  MOST_LISTED_KINDS : Kst mg "MOST_LISTED_KINDS" 10
  MOST_LISTED_COPIES : Kst mg "MOST_LISTED_COPIES" 15
  HIGHEST_WEIGHT : Kst mg "HIGHEST_WEIGHT" 9
  sum : mg "sum" = none
section
variable {P : Program} {w : World} {K : PySem.W.Frag} {mg : Str → Option Value} {base : Heap} {C : Addr}
def spRefusal (K : PySem.W.Frag) : Sp := fun vs H Q _ => ∃ (n : Nat) (a : Addr) (l : List Int) (least t : Int), vs = [.int (n : Int), .ref a, .int least, .int t] ∧ n ≤ 15 ∧ SqL K H a (iv l) ∧ ∀ q, H q = none → Q (.ref q) (upd H q (.lst (iv (refusalOf n l least t))))
theorem ok_refusal_over_runs (F : Fn K mg "refusal_over_runs" "refusal_over_runs" s_refusal_over_runs ["n", "amounts", "least", "t"]) (hA : Has P w K mg base 2 "are_within" ["numbers", "low", "high"] (spAreWithin K)) (hW : Has P w K mg base 1 "is_within" ["number", "low", "high"] spWithin)
    (hR : Has P w K mg base 2 "count_runs" ["n", "t"] spRuns) (N : Ks mg) : Has P w K mg base 3 "refusal_over_runs" ["n", "amounts", "least", "t"] (spRefusal K) := by
  refine F.has (k := 2) sc_refusal_over_runs (fun vs H Q E h => ?_) (fun f cdv A outer s H vs Q E hr h => ?_)
  · obtain ⟨n, a, l, least, t, rfl, _⟩ := h
    rfl
  · obtain ⟨n, a, l, least, t, rfl, hn, hS, k⟩ := h
    have hr1 : Room 1 _ := hr.mono (by decide)
    refine ⟨_, pss_cons (ps_if (PW.pt (pw_or (pt_not (pt_val (pe_fn hA hr rfl (pa_cons (pv 1) (pa_cons (pv 2) (pa_cons (pv 0) pa_nil)))))) (pw_or1 (pt_not (pt_val (pe_fn hW hr1 rfl (pa_cons (pv 3) (pa_cons pe_int (pa_cons (pe_kst N.MOST_GENERATIONS rfl) pa_nil)))))))))
        (pss_one (ps_ret (pe_lst (pa_cons (pe_kst N.NUMBER_OUT_OF_RANGE rfl) pa_nil)))) pss_nil)
      (pss_cons (ps_if (pt_cmpR op_gt (pe_fn hR hr rfl (pa_cons (pv 0) (pa_cons (pv 3) pa_nil))) (pe_kst N.MOST_RUNS rfl) (nomark _)) (pss_one (ps_ret (pe_lst (pa_cons (pe_kst N.TOO_MANY rfl) pa_nil)))) pss_nil)
      (pss_one (ps_ret (pe_lst pa_nil)))), ?_⟩
    refine ⟨_, rfl, _, rfl, _, rfl, a, l, least, (n : Int), rfl, hS, _, rfl, ?_⟩
    cases h1 : inR least (n : Int) l with
    | false =>
      have e : refusalOf n l least t = [-3] := by
        unfold refusalOf
        rw [if_neg (fun z => by rw [h1] at z; cases z.1)]
      rw [e] at k
      exact iteT (iteT ⟨one_line, k⟩)
    | true =>
      refine iteF ⟨_, rfl, t, 0, 20, rfl, _, rfl, ?_⟩
      by_cases h2 : 0 ≤ t ∧ t ≤ 20
      · rw [decide_eq_true h2]
        have et : t = ((t.toNat : Nat) : Int) := (Int.toNat_of_nonneg h2.1).symm
        refine iteF ⟨_, rfl, _, rfl, n, t.toNat, by rw [← et]; rfl, hn, by omega, _, _, rfl, rfl, _, rfl, ?_⟩
        have e : refusalOf n l least t = if Vbecaj.MOST < Vbecaj.all n t.toNat then [-5] else [] := by
          unfold refusalOf
          rw [if_pos ⟨h1, h2⟩]
        rw [e] at k
        by_cases h3 : Vbecaj.MOST < Vbecaj.all n t.toNat
        · rw [decide_eq_true (show (1000000000000000000 : Int) < (Vbecaj.all n t.toNat : Int) from Int.ofNat_lt.mpr h3)]
          rw [if_pos h3] at k
          exact iteT ⟨one_line, k⟩
        · rw [decide_eq_false (show ¬ (1000000000000000000 : Int) < (Vbecaj.all n t.toNat : Int) from fun z => h3 (Int.ofNat_lt.mp z))]
          rw [if_neg h3] at k
          exact iteF ⟨Nat.zero_le _, k⟩
      · rw [decide_eq_false h2]
        have e : refusalOf n l least t = [-3] := by
          unfold refusalOf
          rw [if_neg (fun z => h2 z.2)]
        rw [e] at k
        exact iteT ⟨one_line, k⟩
def isAmounts (n : Int) (l : List Int) : Bool := inL 1 10 0 15 l && decide (l.sum = n)
def spAmounts (K : PySem.W.Frag) : Sp := fun vs H Q _ => ∃ (a : Addr) (l : List Int) (n : Int), vs = [.ref a, .int n] ∧ SqL K H a (iv l) ∧ Q (.bl (isAmounts n l)) H
theorem ok_are_amounts_of_kinds (F : Fn K mg "are_amounts_of_kinds" "are_amounts_of_kinds" s_are_amounts_of_kinds ["amounts", "n"]) (hL : Has P w K mg base 3 "is_list_within" ["members", "shortest", "longest", "low", "high"] (spListWithin K)) (N : Ks2 mg) :
    Has P w K mg base 4 "are_amounts_of_kinds" ["amounts", "n"] (spAmounts K) := by
  refine F.has (k := 3) sc_are_amounts_of_kinds (fun vs H Q E h => ?_) (fun f cdv A outer s H vs Q E hr h => ?_)
  · obtain ⟨a, l, n, rfl, _⟩ := h
    rfl
  · obtain ⟨a, l, n, rfl, hS, q⟩ := h
    refine ⟨_, pss_one (ps_ret (pe_and (pe_fn hL hr rfl (pa_cons (pv 0) (pa_cons pe_int (pa_cons (pe_kst N.MOST_LISTED_KINDS rfl) (pa_cons pe_int (pa_cons (pe_kst N.MOST_LISTED_COPIES rfl) pa_nil))))))
      (pe_one (pe_cmpR op_eq (pe_callB (cr_sum rfl) (by rfl) N.sum boot_sum (pa_cons (pv 0) pa_nil)) (pv 1) (nomark _))))), ?_⟩
    refine ⟨_, rfl, a, l, 1, 10, 0, 15, rfl, hS, _, rfl, ?_⟩
    unfold isAmounts at q
    cases h1 : inL 1 10 0 15 l with
    | false =>
      rw [h1, Bool.false_and] at q
      exact iteF q
    | true =>
      rw [h1, Bool.true_and] at q
      refine iteT ⟨_, rfl, a, l, rfl, hS, _, rfl, rfl, ?_⟩
      by_cases h2 : l.sum = n
      · rw [decide_eq_true (show V.int l.sum = V.int n by rw [h2])]
        rw [decide_eq_true h2] at q; exact q
      · rw [decide_eq_false (show ¬ V.int l.sum = V.int n from fun z => h2 (V.int.inj z))]
        rw [decide_eq_false h2] at q; exact q
def isWeights (n : Int) (i a b : Int) : Bool := decide (0 ≤ i ∧ i ≤ n) && inR 1 9 [a, b]
theorem cut1' (i a b : Int) : cutV (iv [i, a, b]) (some 1) none = iv [a, b] := by
  unfold cutV
  have e : HT.sIx (iv [i, a, b]).length 0 (some 1) = 1 := by
    have := HT.sIx_nat (iv [i, a, b]).length 0 1
    exact this.trans (by show min 1 3 = 1; rfl)
  rw [e, HT.sIx_none]; rfl
def spWeights : Sp := fun vs H Q _ => ∃ (w : Addr) (n i a b : Int), vs = [.int n, .ref w] ∧ H w = some (.lst (iv [i, a, b])) ∧ ∀ H', Same H H' → Q (.bl (isWeights n i a b)) H'
theorem ok_are_copies_and_weights (F : Fn K mg "are_copies_and_weights" "are_copies_and_weights" s_are_copies_and_weights ["n", "wholes"]) (hW : Has P w K mg base 1 "is_within" ["number", "low", "high"] spWithin) (hA : Has P w K mg base 2 "are_within" ["numbers", "low", "high"] (spAreWithin K)) (N : Ks2 mg) :
    Has P w K mg base 3 "are_copies_and_weights" ["n", "wholes"] spWeights := by
  refine F.has (k := 2) sc_are_copies_and_weights (fun vs H Q E h => ?_) (fun f cdv A outer s H vs Q E hr h => ?_)
  · obtain ⟨w, n, i, a, b, rfl, _⟩ := h
    rfl
  · obtain ⟨w, n, i, a, b, rfl, hw, q⟩ := h
    have hr1 : Room 1 _ := hr.mono (by decide)
    refine ⟨_, pss_one (ps_ret (pe_and (pe_fn hW hr1 rfl (pa_cons (pe_ix ix_list (pv 1) pe_int (fun _ _ => rfl)) (pa_cons pe_int (pa_cons (pv 0) pa_nil))))
      (pe_one (pe_fn hA hr rfl (pa_cons (pe_slice sl_list (pv 1) (po_some pe_int) po_none) (pa_cons pe_int (pa_cons (pe_kst N.HIGHEST_WEIGHT rfl) pa_nil))))))), ?_⟩
    refine ⟨_, rfl, w, _, _, _, rfl, rfl, SqL.of hw, atI_nat (j := 0) rfl, _, rfl, i, 0, n, rfl, _, rfl, ?_⟩
    unfold isWeights at q
    by_cases h1 : 0 ≤ i ∧ i ≤ n
    · rw [decide_eq_true h1]
      rw [decide_eq_true h1, Bool.true_and] at q
      refine iteT ⟨_, rfl, _, rfl, w, _, rfl, SqL.of hw, fun p np => ?_⟩
      rw [cut1']
      exact ⟨p, [a, b], 1, 9, rfl, SqL.of upd_same, q _ ((Same.refl H).upd np _)⟩
    · rw [decide_eq_false h1]
      rw [decide_eq_false h1, Bool.false_and] at q
      exact iteF (q H (Same.refl H))
end
end Gd
end
section
set_option Elab.async false
set_option maxRecDepth 100000
set_option maxHeartbeats 2000000
set_option linter.all false
namespace Gd
open PySem PySem.Spec PyProof.Rows L2
open Vbecaj (State act withList withNum withCopies withTime bad)
structure Cns (P : Program) (w : World) (K : PySem.W.Frag) (mg : Str → Option Value) (base : Heap) : Prop where
  refusal : Has P w K mg base 5 "refusal_over_runs" ["n", "amounts", "least", "t"] (spRefusal K)
  runs : Has P w K mg base 5 "count_runs" ["n", "t"] spRuns
  ways : Has P w K mg base 5 "count_ways" ["n", "i", "t"] spWays
  first : Has P w K mg base 5 "count_first" ["n", "i", "t"] spFirst
  merge : Has P w K mg base 5 "count_merge" ["n", "m", "t"] spMerge
  unlike : Has P w K mg base 5 "sum_unlike" ["n", "i", "t"] spUnlike
  amounts : Has P w K mg base 5 "are_amounts_of_kinds" ["amounts", "n"] (spAmounts K)
  toward : Has P w K mg base 5 "count_toward" ["n", "old_amounts", "new_amounts"] (spToward K)
  weights : Has P w K mg base 5 "are_copies_and_weights" ["n", "wholes"] spWeights
  takes : Has P w K mg base 5 "chance_to_take_over" ["n", "i", "a", "b"] spTakeOver
  steps : Has P w K mg base 5 "step_chances" ["n", "i", "a", "b"] spSteps
theorem cast_of {t : Int} (h : 0 ≤ t) : t = ((t.toNat : Nat) : Int) := (Int.toNat_of_nonneg h).symm
theorem len_pos {x : Int} {l : List Int} : decide ((0 : Int) < ((iv (x :: l)).length : Int)) = true := decide_eq_true (by rw [iv_length, List.length_cons]; omega)
section
variable {P : Program} {w : World} {K : PySem.W.Frag} {mg : Str → Option Value} {base : Heap} {C : Addr}
def shAll : List Int → List (List Int) → Vbecaj.Call → Prop := fun ws lss c => ∃ t, ws = [t] ∧ lss = [] ∧ c = .all t
theorem ok_answer_all (F : Fn K mg "answer_all" "answer_all" s_answer_all hps) (G : Fns P w K mg base C) (D : Cns P w K mg base) (N : Ks mg) : Has P w K mg base 6 "answer_all" hps (spHand C shAll true) := by
  refine F.has (k := 5) sc_answer_all spHand_len (fun f cdv A outer s0 H vs Q E hr h => ?_)
  obtain ⟨p, w, ls, a1, a2, las, F', s, ws, lss, call, rfl, hP, fm, hw, hV, ⟨t, rfl, rfl, rfl⟩, k⟩ := h
  have fm := fm rfl
  have hr1 : Room 1 _ := hr.mono (by decide)
  obtain ⟨dx, hp⟩ := hP.obj
  refine ⟨_, pss_cons (ps_set (i := 3) sc_answer_all.nd rfl (Or.inl rfl) (pe_mt0 G.size (pv 0) G.T.cl hr1))
    (pss_cons (ps_set (i := 4) sc_answer_all.nd rfl (Or.inl rfl) (pe_ix ix_list (pv 1) pe_int (fun _ _ => rfl)))
    (pss_cons (ps_set (i := 5) sc_answer_all.nd rfl (Or.inl rfl) (pe_fn D.refusal hr rfl (pa_cons (pv 3) (pa_cons (pe_lst pa_nil) (pa_cons pe_int (pa_cons (pv 4) pa_nil))))))
    (pss_cons (ps_if (pt_cmpR op_gt (pe_callB call_len_seq (by rfl) N.len PySem.boot_len (pa_cons (pv 5) pa_nil)) pe_int (nomark _)) (pss_one (ps_ret (pv 5))) pss_nil)
    (pss_one (ps_ret (pe_lst (pa_cons (pe_fn D.runs hr rfl (pa_cons (pv 3) (pa_cons (pv 4) pa_nil))) pa_nil))))))), ?_⟩
  have ea : act s (.all t) = orRef s (refusalOf s.size [] 0 t) (s, [(Vbecaj.all s.size t.toNat : Int)]) := by
    have e0 : act s (.all t) = withTime s s.size t fun t => (s, [(Vbecaj.all s.size t : Int)]) := by
      unfold act
      exact withCopies_fm fm
    rw [e0]
    exact withTime_ref
  refine ⟨_, rfl, p, dx, _, rfl, hp, no_size _ _, p, a1, a2, _, s, rfl, hP, fm, _, rfl, w, _, _, _, rfl, rfl, SqL.of hw, atI_nat (j := 0) rfl, ?_⟩
  refine ⟨_, rfl, Nat.zero_le _, fun l nl => ⟨_, rfl, s.size, l, [], 0, t, rfl, fm.hi, SqL.of upd_same, fun q nq => ?_⟩⟩
  have s1 : Same H (upd H l (.lst [])) := (Same.refl H).upd nl _
  generalize upd H l (.lst []) = H1 at s1 nq ⊢
  have s2 := s1.trans ((Same.refl H1).upd nq (.lst (iv (refusalOf s.size [] 0 t))))
  refine ⟨_, rfl, q, _, rfl, .inl (SqL.of upd_same), _, _, rfl, rfl, _, rfl, ?_⟩
  cases er : refusalOf s.size [] 0 t with
  | cons x l' =>
    rw [er] at ea s2
    rw [len_pos]
    exact iteT ⟨_, rfl, k.same (ans := x :: l') hP ea s2 (s1.free nq) upd_same⟩
  | nil =>
    rw [er] at ea s2
    obtain ⟨_, h2, h3⟩ := refusal_nil er
    refine iteF ⟨_, rfl, _, rfl, s.size, t.toNat, by rw [← cast_of h2.1]; rfl, fm.hi, by omega, one_line, fun r nr => ?_⟩
    exact k.new (ans := [(Vbecaj.all s.size t.toNat : Int)]) hP ea s2 nr
def shWays : List Int → List (List Int) → Vbecaj.Call → Prop := fun ws lss c => ∃ i j t, ws = [i, j, t] ∧ lss = [] ∧ c = .ways i j t
theorem ok_answer_ways (F : Fn K mg "answer_ways" "answer_ways" s_answer_ways hps) (G : Fns P w K mg base C) (D : Cns P w K mg base) (N : Ks mg) : Has P w K mg base 6 "answer_ways" hps (spHand C shWays true) := by
  refine F.has (k := 5) sc_answer_ways spHand_len (fun f cdv A outer s0 H vs Q E hr h => ?_)
  obtain ⟨p, w, ls, a1, a2, las, F', s, ws, lss, call, rfl, hP, fm, hw, hV, ⟨i, j, t, rfl, rfl, rfl⟩, k⟩ := h
  have fm := fm rfl
  have hr1 : Room 1 _ := hr.mono (by decide)
  obtain ⟨dx, hp⟩ := hP.obj
  refine ⟨_, pss_cons (ps_set (i := 3) sc_answer_ways.nd rfl (Or.inl rfl) (pe_mt0 G.size (pv 0) G.T.cl hr1))
    (pss_cons (ps_set (i := 4) sc_answer_ways.nd rfl (Or.inl rfl) (pe_ix ix_list (pv 1) pe_int (fun _ _ => rfl)))
    (pss_cons (ps_set (i := 5) sc_answer_ways.nd rfl (Or.inl rfl) (pe_ix ix_list (pv 1) pe_int (fun _ _ => rfl)))
    (pss_cons (ps_set (i := 6) sc_answer_ways.nd rfl (Or.inl rfl) (pe_ix ix_list (pv 1) pe_int (fun _ _ => rfl)))
    (pss_cons (ps_set (i := 7) sc_answer_ways.nd rfl (Or.inl rfl) (pe_fn D.refusal hr rfl (pa_cons (pv 3) (pa_cons (pe_lst (pa_cons (pv 4) (pa_cons (pv 5) pa_nil))) (pa_cons pe_int (pa_cons (pv 6) pa_nil))))))
    (pss_cons (ps_if (pt_cmpR op_gt (pe_callB call_len_seq (by rfl) N.len PySem.boot_len (pa_cons (pv 7) pa_nil)) pe_int (nomark _)) (pss_one (ps_ret (pv 7))) pss_nil)
    (pss_one (ps_ret (pe_lst (pa_cons (pe_ix ix_list (pe_fn D.ways hr rfl (pa_cons (pv 3) (pa_cons (pv 4) (pa_cons (pv 6) pa_nil)))) (pv 5) (fun _ _ => rfl)) pa_nil))))))))), ?_⟩
  have ea : act s (.ways i j t) = orRef s (refusalOf s.size [i, j] 0 t) (s, [(Vbecaj.ways s.size i.toNat j.toNat t.toNat : Int)]) := by
    have e0 : act s (.ways i j t) = withNum s i 0 (s.size : Int) fun i => withNum s j 0 (s.size : Int) fun j => withTime s s.size t fun t => (s, [(Vbecaj.ways s.size i j t : Int)]) := by
      unfold act
      exact withCopies_fm fm
    rw [e0]
    exact withNum_ref (o := fun i => (s, [(Vbecaj.ways s.size i j.toNat t.toNat : Int)])) fun i => withNum_ref (o := fun j => (s, [(Vbecaj.ways s.size i j t.toNat : Int)])) fun j => withTime_ref
  refine ⟨_, rfl, p, dx, _, rfl, hp, no_size _ _, p, a1, a2, _, s, rfl, hP, fm, _, rfl, w, _, _, _, rfl, rfl, SqL.of hw, atI_nat (j := 0) rfl, _, rfl, w, _, _, _, rfl, rfl, SqL.of hw, atI_nat (j := 1) rfl, _, rfl, w, _, _, _, rfl, rfl, SqL.of hw, atI_nat (j := 2) rfl, ?_⟩
  refine ⟨_, rfl, _, rfl, _, rfl, two_line, fun l nl => ⟨_, rfl, s.size, l, [i, j], 0, t, rfl, fm.hi, SqL.of upd_same, fun q nq => ?_⟩⟩
  have s1 : Same H (upd H l (.lst [V.int i, V.int j])) := (Same.refl H).upd nl _
  generalize upd H l (.lst [V.int i, V.int j]) = H1 at s1 nq ⊢
  have s2 := s1.trans ((Same.refl H1).upd nq (.lst (iv (refusalOf s.size [i, j] 0 t))))
  refine ⟨_, rfl, q, _, rfl, .inl (SqL.of upd_same), _, _, rfl, rfl, _, rfl, ?_⟩
  cases er : refusalOf s.size [i, j] 0 t with
  | cons x l' =>
    rw [er] at ea s2
    rw [len_pos]
    exact iteT ⟨_, rfl, k.same (ans := x :: l') hP ea s2 (s1.free nq) upd_same⟩
  | nil =>
    rw [er] at ea s2
    obtain ⟨h1, h2, h3⟩ := refusal_nil er
    obtain ⟨hi, h1⟩ := inR_cons.mp h1
    obtain ⟨hj, _⟩ := inR_cons.mp h1
    generalize upd H1 q (.lst (iv [])) = H2 at s2 ⊢
    refine iteF ⟨_, rfl, _, rfl, _, rfl, s.size, i.toNat, t.toNat, by rw [← cast_of h2.1, ← cast_of hi.1]; rfl, by omega, fm.hi, by omega, fun H3 q3 s3 n3 g3 => ?_⟩
    have hl := waysFrom_length s.size t.toNat (Vbecaj.single s.size i.toNat) (single_length _ _)
    refine ⟨_, rfl, q3, _, _, _, rfl, rfl, SqL.of g3, at_of (cast_of hj.1) (getD_get (by omega)), one_line, fun r nr => ?_⟩
    exact k.new (ans := [(Vbecaj.ways s.size i.toNat j.toNat t.toNat : Int)]) hP ea (s2.trans s3) nr
def shFirst : List Int → List (List Int) → Vbecaj.Call → Prop := fun ws lss c => ∃ i t, ws = [i, t] ∧ lss = [] ∧ c = .first i t
theorem ok_answer_first (F : Fn K mg "answer_first" "answer_first" s_answer_first hps) (G : Fns P w K mg base C) (D : Cns P w K mg base) (N : Ks mg) : Has P w K mg base 6 "answer_first" hps (spHand C shFirst true) := by
  refine F.has (k := 5) sc_answer_first spHand_len (fun f cdv A outer s0 H vs Q E hr h => ?_)
  obtain ⟨p, w, ls, a1, a2, las, F', s, ws, lss, call, rfl, hP, fm, hw, hV, ⟨i, t, rfl, rfl, rfl⟩, k⟩ := h
  have fm := fm rfl
  have hr1 : Room 1 _ := hr.mono (by decide)
  obtain ⟨dx, hp⟩ := hP.obj
  refine ⟨_, pss_cons (ps_set (i := 3) sc_answer_first.nd rfl (Or.inl rfl) (pe_mt0 G.size (pv 0) G.T.cl hr1))
    (pss_cons (ps_set (i := 4) sc_answer_first.nd rfl (Or.inl rfl) (pe_ix ix_list (pv 1) pe_int (fun _ _ => rfl)))
    (pss_cons (ps_set (i := 5) sc_answer_first.nd rfl (Or.inl rfl) (pe_ix ix_list (pv 1) pe_int (fun _ _ => rfl)))
    (pss_cons (ps_set (i := 6) sc_answer_first.nd rfl (Or.inl rfl) (pe_fn D.refusal hr rfl (pa_cons (pv 3) (pa_cons (pe_lst (pa_cons (pv 4) pa_nil)) (pa_cons pe_int (pa_cons (pv 5) pa_nil))))))
    (pss_cons (ps_if (pt_cmpR op_gt (pe_callB call_len_seq (by rfl) N.len PySem.boot_len (pa_cons (pv 6) pa_nil)) pe_int (nomark _)) (pss_one (ps_ret (pv 6))) pss_nil)
    (pss_one (ps_ret (pe_lst (pa_cons (pe_fn D.first hr rfl (pa_cons (pv 3) (pa_cons (pv 4) (pa_cons (pv 5) pa_nil)))) pa_nil)))))))), ?_⟩
  have ea : act s (.first i t) = orRef s (refusalOf s.size [i] 0 t) (s, [(Vbecaj.first s.size i.toNat t.toNat : Int)]) := by
    have e0 : act s (.first i t) = withNum s i 0 (s.size : Int) fun i => withTime s s.size t fun t => (s, [(Vbecaj.first s.size i t : Int)]) := by
      unfold act
      exact withCopies_fm fm
    rw [e0]
    exact withNum_ref (o := fun i => (s, [(Vbecaj.first s.size i t.toNat : Int)])) fun i => withTime_ref
  refine ⟨_, rfl, p, dx, _, rfl, hp, no_size _ _, p, a1, a2, _, s, rfl, hP, fm, _, rfl, w, _, _, _, rfl, rfl, SqL.of hw, atI_nat (j := 0) rfl, _, rfl, w, _, _, _, rfl, rfl, SqL.of hw, atI_nat (j := 1) rfl, ?_⟩
  refine ⟨_, rfl, _, rfl, one_line, fun l nl => ⟨_, rfl, s.size, l, [i], 0, t, rfl, fm.hi, SqL.of upd_same, fun q nq => ?_⟩⟩
  have s1 : Same H (upd H l (.lst [V.int i])) := (Same.refl H).upd nl _
  generalize upd H l (.lst [V.int i]) = H1 at s1 nq ⊢
  have s2 := s1.trans ((Same.refl H1).upd nq (.lst (iv (refusalOf s.size [i] 0 t))))
  refine ⟨_, rfl, q, _, rfl, .inl (SqL.of upd_same), _, _, rfl, rfl, _, rfl, ?_⟩
  cases er : refusalOf s.size [i] 0 t with
  | cons x l' =>
    rw [er] at ea s2
    rw [len_pos]
    exact iteT ⟨_, rfl, k.same (ans := x :: l') hP ea s2 (s1.free nq) upd_same⟩
  | nil =>
    rw [er] at ea s2
    obtain ⟨h1, h2, h3⟩ := refusal_nil er
    obtain ⟨hi, _⟩ := inR_cons.mp h1
    generalize upd H1 q (.lst (iv [])) = H2 at s2 ⊢
    refine iteF ⟨_, rfl, _, rfl, _, rfl, s.size, i.toNat, t.toNat, by rw [← cast_of h2.1, ← cast_of hi.1]; rfl, by omega, fm.hi, by omega, fun H3 s3 => ⟨one_line, fun r nr => ?_⟩⟩
    exact k.new (ans := [(Vbecaj.first s.size i.toNat t.toNat : Int)]) hP ea (s2.trans s3) nr
def shMerge : List Int → List (List Int) → Vbecaj.Call → Prop := fun ws lss c => ∃ m k t, ws = [m, k, t] ∧ lss = [] ∧ c = .merge m k t
theorem ok_answer_merge (F : Fn K mg "answer_merge" "answer_merge" s_answer_merge hps) (G : Fns P w K mg base C) (D : Cns P w K mg base) (N : Ks mg) : Has P w K mg base 6 "answer_merge" hps (spHand C shMerge true) := by
  refine F.has (k := 5) sc_answer_merge spHand_len (fun f cdv A outer s0 H vs Q E hr h => ?_)
  obtain ⟨p, w, ls, a1, a2, las, F', s, ws, lss, call, rfl, hP, fm, hw, hV, ⟨i, j, t, rfl, rfl, rfl⟩, k⟩ := h
  have fm := fm rfl
  have hr1 : Room 1 _ := hr.mono (by decide)
  obtain ⟨dx, hp⟩ := hP.obj
  refine ⟨_, pss_cons (ps_set (i := 3) sc_answer_merge.nd rfl (Or.inl rfl) (pe_mt0 G.size (pv 0) G.T.cl hr1))
    (pss_cons (ps_set (i := 4) sc_answer_merge.nd rfl (Or.inl rfl) (pe_ix ix_list (pv 1) pe_int (fun _ _ => rfl)))
    (pss_cons (ps_set (i := 5) sc_answer_merge.nd rfl (Or.inl rfl) (pe_ix ix_list (pv 1) pe_int (fun _ _ => rfl)))
    (pss_cons (ps_set (i := 6) sc_answer_merge.nd rfl (Or.inl rfl) (pe_ix ix_list (pv 1) pe_int (fun _ _ => rfl)))
    (pss_cons (ps_set (i := 7) sc_answer_merge.nd rfl (Or.inl rfl) (pe_fn D.refusal hr rfl (pa_cons (pv 3) (pa_cons (pe_lst (pa_cons (pv 4) (pa_cons (pv 5) pa_nil))) (pa_cons pe_int (pa_cons (pv 6) pa_nil))))))
    (pss_cons (ps_if (pt_cmpR op_gt (pe_callB call_len_seq (by rfl) N.len PySem.boot_len (pa_cons (pv 7) pa_nil)) pe_int (nomark _)) (pss_one (ps_ret (pv 7))) pss_nil)
    (pss_one (ps_ret (pe_lst (pa_cons (pe_ix ix_list (pe_fn D.merge hr rfl (pa_cons (pv 3) (pa_cons (pv 4) (pa_cons (pv 6) pa_nil)))) (pv 5) (fun _ _ => rfl)) pa_nil))))))))), ?_⟩
  have ea : act s (.merge i j t) = orRef s (refusalOf s.size [i, j] 1 t) (s, [(Vbecaj.merge s.size i.toNat j.toNat t.toNat : Int)]) := by
    have e0 : act s (.merge i j t) = withNum s i 1 (s.size : Int) fun m => withNum s j 1 (s.size : Int) fun k => withTime s s.size t fun t => (s, [(Vbecaj.merge s.size m k t : Int)]) := by
      unfold act
      exact withCopies_fm fm
    rw [e0]
    exact withNum_ref (o := fun i => (s, [(Vbecaj.merge s.size i j.toNat t.toNat : Int)])) fun i => withNum_ref (o := fun j => (s, [(Vbecaj.merge s.size i j t.toNat : Int)])) fun j => withTime_ref
  refine ⟨_, rfl, p, dx, _, rfl, hp, no_size _ _, p, a1, a2, _, s, rfl, hP, fm, _, rfl, w, _, _, _, rfl, rfl, SqL.of hw, atI_nat (j := 0) rfl, _, rfl, w, _, _, _, rfl, rfl, SqL.of hw, atI_nat (j := 1) rfl, _, rfl, w, _, _, _, rfl, rfl, SqL.of hw, atI_nat (j := 2) rfl, ?_⟩
  refine ⟨_, rfl, _, rfl, _, rfl, two_line, fun l nl => ⟨_, rfl, s.size, l, [i, j], 1, t, rfl, fm.hi, SqL.of upd_same, fun q nq => ?_⟩⟩
  have s1 : Same H (upd H l (.lst [V.int i, V.int j])) := (Same.refl H).upd nl _
  generalize upd H l (.lst [V.int i, V.int j]) = H1 at s1 nq ⊢
  have s2 := s1.trans ((Same.refl H1).upd nq (.lst (iv (refusalOf s.size [i, j] 1 t))))
  refine ⟨_, rfl, q, _, rfl, .inl (SqL.of upd_same), _, _, rfl, rfl, _, rfl, ?_⟩
  cases er : refusalOf s.size [i, j] 1 t with
  | cons x l' =>
    rw [er] at ea s2
    rw [len_pos]
    exact iteT ⟨_, rfl, k.same (ans := x :: l') hP ea s2 (s1.free nq) upd_same⟩
  | nil =>
    rw [er] at ea s2
    obtain ⟨h1, h2, h3⟩ := refusal_nil er
    obtain ⟨hi, h1⟩ := inR_cons.mp h1
    obtain ⟨hj, _⟩ := inR_cons.mp h1
    generalize upd H1 q (.lst (iv [])) = H2 at s2 ⊢
    refine iteF ⟨_, rfl, _, rfl, _, rfl, s.size, i.toNat, t.toNat, by rw [← cast_of h2.1, ← cast_of (t := i) (by omega)]; rfl, by omega, fm.hi, by omega, fun H3 q3 s3 n3 g3 => ?_⟩
    have hl := mergeFrom_length s.size t.toNat (Vbecaj.single s.size i.toNat) (single_length _ _)
    refine ⟨_, rfl, q3, _, _, _, rfl, rfl, SqL.of g3, at_of (cast_of (t := j) (by omega)) (getD_get (by omega)), one_line, fun r nr => ?_⟩
    exact k.new (ans := [(Vbecaj.merge s.size i.toNat j.toNat t.toNat : Int)]) hP ea (s2.trans s3) nr
def shAlike : List Int → List (List Int) → Vbecaj.Call → Prop := fun ws lss c => ∃ t, ws = [t] ∧ lss = [] ∧ c = .alike t
theorem ok_answer_alike (F : Fn K mg "answer_alike" "answer_alike" s_answer_alike hps) (G : Fns P w K mg base C) (D : Cns P w K mg base) (N : Ks mg) : Has P w K mg base 6 "answer_alike" hps (spHand C shAlike true) := by
  refine F.has (k := 5) sc_answer_alike spHand_len (fun f cdv A outer s0 H vs Q E hr h => ?_)
  obtain ⟨p, w, ls, a1, a2, las, F', s, ws, lss, call, rfl, hP, fm, hw, hV, ⟨t, rfl, rfl, rfl⟩, k⟩ := h
  have fm := fm rfl
  have hr1 : Room 1 _ := hr.mono (by decide)
  obtain ⟨dx, hp⟩ := hP.obj
  have hlo := fm.lo
  have hhi := fm.hi
  refine ⟨_, pss_cons (ps_set (i := 3) sc_answer_alike.nd rfl (Or.inl rfl) (pe_mt0 G.size (pv 0) G.T.cl hr1))
    (pss_cons (ps_set (i := 4) sc_answer_alike.nd rfl (Or.inl rfl) (pe_ix ix_list (pv 1) pe_int (fun _ _ => rfl)))
    (pss_cons (ps_if (pt_cmpR op_eq (pv 3) pe_int (nomark _)) (pss_one (ps_ret (pe_lst (pa_cons (pe_kst N.NUMBER_OUT_OF_RANGE rfl) pa_nil)))) pss_nil)
    (pss_cons (ps_set (i := 5) sc_answer_alike.nd rfl (Or.inl rfl) (pe_fn D.refusal hr rfl (pa_cons (pv 3) (pa_cons (pe_lst pa_nil) (pa_cons pe_int (pa_cons (pv 4) pa_nil))))))
    (pss_cons (ps_if (pt_cmpR op_gt (pe_callB call_len_seq (by rfl) N.len PySem.boot_len (pa_cons (pv 5) pa_nil)) pe_int (nomark _)) (pss_one (ps_ret (pv 5))) pss_nil)
    (pss_one (ps_ret (pe_lst (pa_cons (pe_ix ix_list (pe_fn D.merge hr rfl (pa_cons (pv 3) (pa_cons pe_int (pa_cons (pv 4) pa_nil)))) pe_int (fun _ _ => rfl)) pa_nil)))))))), ?_⟩
  have ea0 : act s (.alike t) = withNum s (s.size : Int) 2 15 fun n => withTime s n t fun t => (s, [(Vbecaj.merge n 2 1 t : Int)]) := by
    unfold act
    exact withCopies_fm fm
  refine ⟨_, rfl, p, dx, _, rfl, hp, no_size _ _, p, a1, a2, _, s, rfl, hP, fm, _, rfl, w, _, _, _, rfl, rfl, SqL.of hw, atI_nat (j := 0) rfl, _, rfl, rfl, _, rfl, ?_⟩
  by_cases h1 : s.size = 1
  · rw [decide_eq_true (show V.int (s.size : Int) = V.int 1 by rw [h1]; rfl)]
    exact iteT ⟨one_line, fun r nr => k.new (ans := [-3]) hP (ea0.trans (withNum_neg (by omega))) (Same.refl H) nr⟩
  rw [decide_eq_false (show ¬ V.int (s.size : Int) = V.int 1 from fun z => h1 (by have := V.int.inj z; omega))]
  have ea : act s (.alike t) = orRef s (refusalOf s.size [] 0 t) (s, [(Vbecaj.merge s.size 2 1 t.toNat : Int)]) := by
    rw [ea0, withNum_pos (by omega), Int.toNat_natCast]
    exact withTime_ref
  refine iteF ⟨_, rfl, Nat.zero_le _, fun l nl => ⟨_, rfl, s.size, l, [], 0, t, rfl, fm.hi, SqL.of upd_same, fun q nq => ?_⟩⟩
  have s1 : Same H (upd H l (.lst [])) := (Same.refl H).upd nl _
  generalize upd H l (.lst []) = H1 at s1 nq ⊢
  have s2 := s1.trans ((Same.refl H1).upd nq (.lst (iv (refusalOf s.size [] 0 t))))
  refine ⟨_, rfl, q, _, rfl, .inl (SqL.of upd_same), _, _, rfl, rfl, _, rfl, ?_⟩
  cases er : refusalOf s.size [] 0 t with
  | cons x l' =>
    rw [er] at ea s2
    rw [len_pos]
    exact iteT ⟨_, rfl, k.same (ans := x :: l') hP ea s2 (s1.free nq) upd_same⟩
  | nil =>
    rw [er] at ea s2
    obtain ⟨_, h2, h3⟩ := refusal_nil er
    generalize upd H1 q (.lst (iv [])) = H2 at s2 ⊢
    refine iteF ⟨_, rfl, _, rfl, s.size, 2, t.toNat, by rw [← cast_of h2.1]; rfl, by omega, fm.hi, by omega, fun H3 q3 s3 n3 g3 => ?_⟩
    have hl := mergeFrom_length s.size t.toNat (Vbecaj.single s.size 2) (single_length _ _)
    refine ⟨q3, _, _, _, rfl, rfl, SqL.of g3, at_of (j := 1) rfl (getD_get (by omega)), one_line, fun r nr => ?_⟩
    exact k.new (ans := [(Vbecaj.merge s.size 2 1 t.toNat : Int)]) hP ea (s2.trans s3) nr
def shUnlike : List Int → List (List Int) → Vbecaj.Call → Prop := fun ws lss c => ∃ i t, ws = [i, t] ∧ lss = [] ∧ c = .unlike i t
theorem ok_answer_unlike (F : Fn K mg "answer_unlike" "answer_unlike" s_answer_unlike hps) (G : Fns P w K mg base C) (D : Cns P w K mg base) (N : Ks mg) : Has P w K mg base 6 "answer_unlike" hps (spHand C shUnlike true) := by
  refine F.has (k := 5) sc_answer_unlike spHand_len (fun f cdv A outer s0 H vs Q E hr h => ?_)
  obtain ⟨p, w, ls, a1, a2, las, F', s, ws, lss, call, rfl, hP, fm, hw, hV, ⟨i, t, rfl, rfl, rfl⟩, k⟩ := h
  have fm := fm rfl
  have hr1 : Room 1 _ := hr.mono (by decide)
  obtain ⟨dx, hp⟩ := hP.obj
  refine ⟨_, pss_cons (ps_set (i := 3) sc_answer_unlike.nd rfl (Or.inl rfl) (pe_mt0 G.size (pv 0) G.T.cl hr1))
    (pss_cons (ps_set (i := 4) sc_answer_unlike.nd rfl (Or.inl rfl) (pe_ix ix_list (pv 1) pe_int (fun _ _ => rfl)))
    (pss_cons (ps_set (i := 5) sc_answer_unlike.nd rfl (Or.inl rfl) (pe_ix ix_list (pv 1) pe_int (fun _ _ => rfl)))
    (pss_cons (ps_set (i := 6) sc_answer_unlike.nd rfl (Or.inl rfl) (pe_fn D.refusal hr rfl (pa_cons (pv 3) (pa_cons (pe_lst (pa_cons (pv 4) pa_nil)) (pa_cons pe_int (pa_cons (pv 5) pa_nil))))))
    (pss_cons (ps_if (pt_cmpR op_gt (pe_callB call_len_seq (by rfl) N.len PySem.boot_len (pa_cons (pv 6) pa_nil)) pe_int (nomark _)) (pss_one (ps_ret (pv 6))) pss_nil)
    (pss_cons (ps_set (i := 7) sc_answer_unlike.nd rfl (Or.inl rfl) (pe_fn D.unlike hr rfl (pa_cons (pv 3) (pa_cons (pv 4) (pa_cons (pv 5) pa_nil)))))
    (pss_cons (ps_if (pt_cmpR op_gt (pv 7) (pe_kst N.MOST_RUNS rfl) (nomark _)) (pss_one (ps_ret (pe_lst (pa_cons (pe_kst N.TOO_MANY rfl) pa_nil)))) pss_nil)
    (pss_one (ps_ret (pe_lst (pa_cons (pv 7) pa_nil)))))))))), ?_⟩
  have ea : act s (.unlike i t) = orRef s (refusalOf s.size [i] 0 t) (if Vbecaj.MOST < Vbecaj.unlike s.size i.toNat t.toNat then bad s (-5) else (s, [(Vbecaj.unlike s.size i.toNat t.toNat : Int)])) := by
    have e0 : act s (.unlike i t) = withNum s i 0 (s.size : Int) fun i => withTime s s.size t fun t => if Vbecaj.MOST < Vbecaj.unlike s.size i t then bad s (-5) else (s, [(Vbecaj.unlike s.size i t : Int)]) := by
      unfold act
      exact withCopies_fm fm
    rw [e0]
    exact withNum_ref (o := fun i => if Vbecaj.MOST < Vbecaj.unlike s.size i t.toNat then bad s (-5) else (s, [(Vbecaj.unlike s.size i t.toNat : Int)])) fun i => withTime_ref
  refine ⟨_, rfl, p, dx, _, rfl, hp, no_size _ _, p, a1, a2, _, s, rfl, hP, fm, _, rfl, w, _, _, _, rfl, rfl, SqL.of hw, atI_nat (j := 0) rfl, _, rfl, w, _, _, _, rfl, rfl, SqL.of hw, atI_nat (j := 1) rfl, ?_⟩
  refine ⟨_, rfl, _, rfl, one_line, fun l nl => ⟨_, rfl, s.size, l, [i], 0, t, rfl, fm.hi, SqL.of upd_same, fun q nq => ?_⟩⟩
  have s1 : Same H (upd H l (.lst [V.int i])) := (Same.refl H).upd nl _
  generalize upd H l (.lst [V.int i]) = H1 at s1 nq ⊢
  have s2 := s1.trans ((Same.refl H1).upd nq (.lst (iv (refusalOf s.size [i] 0 t))))
  refine ⟨_, rfl, q, _, rfl, .inl (SqL.of upd_same), _, _, rfl, rfl, _, rfl, ?_⟩
  cases er : refusalOf s.size [i] 0 t with
  | cons x l' =>
    rw [er] at ea s2
    rw [len_pos]
    exact iteT ⟨_, rfl, k.same (ans := x :: l') hP ea s2 (s1.free nq) upd_same⟩
  | nil =>
    rw [er] at ea s2
    obtain ⟨h1, h2, h3⟩ := refusal_nil er
    obtain ⟨hi, _⟩ := inR_cons.mp h1
    generalize upd H1 q (.lst (iv [])) = H2 at s2 ⊢
    refine iteF ⟨_, rfl, _, rfl, _, rfl, s.size, i.toNat, t.toNat, by rw [← cast_of h2.1, ← cast_of hi.1]; rfl, by omega, fm.hi, by omega, fun H3 s3 => ⟨_, rfl, _, _, rfl, rfl, _, rfl, ?_⟩⟩
    have ea : act s (.unlike i t) = if Vbecaj.MOST < Vbecaj.unlike s.size i.toNat t.toNat then bad s (-5) else (s, [(Vbecaj.unlike s.size i.toNat t.toNat : Int)]) := ea
    by_cases h4 : Vbecaj.MOST < Vbecaj.unlike s.size i.toNat t.toNat
    · rw [decide_eq_true (show (1000000000000000000 : Int) < (Vbecaj.unlike s.size i.toNat t.toNat : Int) from Int.ofNat_lt.mpr h4)]
      rw [if_pos h4] at ea
      exact iteT ⟨one_line, fun r nr => k.new (ans := [-5]) hP ea (s2.trans s3) nr⟩
    · rw [decide_eq_false (show ¬ (1000000000000000000 : Int) < (Vbecaj.unlike s.size i.toNat t.toNat : Int) from fun z => h4 (Int.ofNat_lt.mp z))]
      rw [if_neg h4] at ea
      exact iteF ⟨_, rfl, one_line, fun r nr => k.new (ans := [(Vbecaj.unlike s.size i.toNat t.toNat : Int)]) hP ea (s2.trans s3) nr⟩
end
end Gd
end
section
set_option Elab.async false
set_option maxRecDepth 100000
set_option maxHeartbeats 2000000
set_option linter.all false
namespace Gd
open PySem PySem.Spec PyProof.Rows L2
open Vbecaj (State act withList withNum withCopies withTime bad)
theorem sum_toNat : ∀ {l : List Int}, (∀ x ∈ l, 0 ≤ x) → (((l.map Int.toNat).sum : Nat) : Int) = l.sum
  | [], _ => rfl
  | x :: l, h => by
    have h1 := h x (List.mem_cons_self ..)
    have h2 := sum_toNat (l := l) fun y hy => h y (List.mem_cons_of_mem _ hy)
    rw [List.map_cons, List.sum_cons, List.sum_cons, Int.natCast_add, h2, Int.toNat_of_nonneg h1]
def isToward (n : Nat) (c d : List Int) : Bool := (isAmounts (n : Int) c && isAmounts (n : Int) d) && decide (c.length = d.length)
theorem toward_yes {s : State} (fm : Fm s) {c d : List Int} (h : isToward s.size c d = true) : act s (.toward c d) = (s, [(Vbecaj.toward s.size (c.map Int.toNat) (d.map Int.toNat) : Int)]) ∧
    (c.map Int.toNat).length = (d.map Int.toNat).length ∧ (c.map Int.toNat).length ≤ 10 ∧ (c.map Int.toNat).sum = s.size ∧ (d.map Int.toNat).sum = s.size ∧ nv (c.map Int.toNat) = iv c ∧ nv (d.map Int.toNat) = iv d := by
  unfold isToward isAmounts at h
  rw [Bool.and_eq_true, Bool.and_eq_true, Bool.and_eq_true, Bool.and_eq_true] at h
  obtain ⟨⟨⟨h1, h2⟩, h3, h4⟩, h5⟩ := h
  have h2 := of_decide_eq_true h2
  have h4 := of_decide_eq_true h4
  have h5 := of_decide_eq_true h5
  obtain ⟨g1, m1⟩ := inL_mem h1
  obtain ⟨g3, m3⟩ := inL_mem h3
  have e1 := sum_toNat fun x hx => (m1 x hx).1
  have e3 := sum_toNat fun x hx => (m3 x hx).1
  have s1 : (c.map Int.toNat).sum = s.size := by omega
  have s3 : (d.map Int.toNat).sum = s.size := by omega
  have e0 : act s (.toward c d) = withList s 1 10 15 c fun c => withList s c.length c.length 15 d fun d => if c.sum = s.size ∧ d.sum = s.size then (s, [(Vbecaj.toward s.size c d : Int)]) else bad s (-4) := by
    unfold act
    exact withCopies_fm fm
  have hd : inL (((c.map Int.toNat).length : Nat) : Int) (((c.map Int.toNat).length : Nat) : Int) 0 15 d = true := by
    unfold inL at h3 ⊢
    rw [Bool.and_eq_true] at h3
    rw [h3.2, List.length_map, decide_eq_true (by omega)]; rfl
  refine ⟨?_, by rw [List.length_map, List.length_map]; exact h5, by rw [List.length_map]; omega, s1, s3, nv_toNat fun x hx => (m1 x hx).1, nv_toNat fun x hx => (m3 x hx).1⟩
  rw [e0, withList_pos (lo := 1) (hi := 10) h1, withList_pos hd, if_pos ⟨s1, s3⟩]
theorem toward_no {s : State} (fm : Fm s) {c d : List Int} (h : isToward s.size c d = false) : act s (.toward c d) = (s, [-4]) := by
  have e0 : act s (.toward c d) = withList s 1 10 15 c fun c => withList s c.length c.length 15 d fun d => if c.sum = s.size ∧ d.sum = s.size then (s, [(Vbecaj.toward s.size c d : Int)]) else bad s (-4) := by
    unfold act
    exact withCopies_fm fm
  rw [e0]
  cases h1 : inL 1 10 0 15 c with
  | false => exact withList_neg (lo := 1) (hi := 10) h1
  | true =>
    rw [withList_pos (lo := 1) (hi := 10) h1]
    cases h3 : inL (((c.map Int.toNat).length : Nat) : Int) (((c.map Int.toNat).length : Nat) : Int) 0 15 d with
    | false => exact withList_neg h3
    | true =>
      rw [withList_pos h3]
      rw [if_neg]
      · rfl
      rintro ⟨s1, s3⟩
      obtain ⟨g1, m1⟩ := inL_mem h1
      obtain ⟨g3, m3⟩ := inL_mem h3
      rw [List.length_map] at g3
      have e1 := sum_toNat fun x hx => (m1 x hx).1
      have e3 := sum_toNat fun x hx => (m3 x hx).1
      have hd : inL 1 10 0 15 d = true := by
        unfold inL at h3 ⊢
        rw [Bool.and_eq_true] at h3
        rw [h3.2, decide_eq_true (by omega)]; rfl
      have : isToward s.size c d = true := by
        unfold isToward isAmounts
        rw [h1, hd, decide_eq_true (show c.sum = (s.size : Int) by omega), decide_eq_true (show d.sum = (s.size : Int) by omega), decide_eq_true (show c.length = d.length by omega)]
        rfl
      rw [this] at h; cases h
theorem weights_yes {n i a b : Int} (h : isWeights n i a b = true) : (0 ≤ i ∧ i ≤ n) ∧ (1 ≤ a ∧ a ≤ 9) ∧ (1 ≤ b ∧ b ≤ 9) := by
  unfold isWeights at h
  rw [Bool.and_eq_true] at h
  obtain ⟨h2, h3⟩ := inR_cons.mp h.2
  exact ⟨of_decide_eq_true h.1, h2, (inR_cons.mp h3).1⟩
theorem weights_no {s : State} {n : Nat} {i a b : Int} {k : Nat → Nat → Nat → Vbecaj.Out} (h : isWeights (n : Int) i a b = false) : (withNum s i 0 (n : Int) fun i => withNum s a 1 9 fun a => withNum s b 1 9 fun b => k i a b) = (s, [-3]) := by
  by_cases h1 : 0 ≤ i ∧ i ≤ (n : Int)
  · rw [withNum_pos h1]
    by_cases h2 : 1 ≤ a ∧ a ≤ 9
    · rw [withNum_pos h2]
      by_cases h3 : 1 ≤ b ∧ b ≤ 9
      · have : isWeights (n : Int) i a b = true := by
          unfold isWeights
          rw [decide_eq_true h1, inR_cons.mpr ⟨h2, inR_cons.mpr ⟨h3, inR_nil⟩⟩]; rfl
        rw [this] at h; cases h
      · exact withNum_neg h3
    · exact withNum_neg h2
  · exact withNum_neg h1
section
variable {P : Program} {w : World} {K : PySem.W.Frag} {mg : Str → Option Value} {base : Heap} {C : Addr}
def shToward : List Int → List (List Int) → Vbecaj.Call → Prop := fun ws lss c => ∃ x y, ws = [] ∧ lss = [x, y] ∧ c = .toward x y
theorem ok_answer_toward (F : Fn K mg "answer_toward" "answer_toward" s_answer_toward hps) (G : Fns P w K mg base C) (D : Cns P w K mg base) (N : Ks mg) : Has P w K mg base 6 "answer_toward" hps (spHand C shToward true) := by
  refine F.has (k := 5) sc_answer_toward spHand_len (fun f cdv A outer s0 H vs Q E hr h => ?_)
  obtain ⟨p, w, ls, a1, a2, las, F', s, ws, lss, call, rfl, hP, fm, hw, hV, ⟨c, d, rfl, rfl, rfl⟩, k⟩ := h
  have fm := fm rfl
  have hr1 : Room 1 _ := hr.mono (by decide)
  obtain ⟨dx, hp⟩ := hP.obj
  obtain ⟨b, hb, hbb⟩ := hV.get (i := 0) (xs := iv c) rfl
  obtain ⟨b2, hb2, hbb2⟩ := hV.get (i := 1) (xs := iv d) rfl
  refine ⟨_, pss_cons (ps_set (i := 3) sc_answer_toward.nd rfl (Or.inl rfl) (pe_mt0 G.size (pv 0) G.T.cl hr1))
    (pss_cons (ps_set (i := 4) sc_answer_toward.nd rfl (Or.inl rfl) (pe_ix ix_list (pv 2) pe_int (fun _ _ => rfl)))
    (pss_cons (ps_set (i := 5) sc_answer_toward.nd rfl (Or.inl rfl) (pe_ix ix_list (pv 2) pe_int (fun _ _ => rfl)))
    (pss_cons (ps_if (PW.pt (pw_or (pt_not (pt_val (pe_fn D.amounts hr rfl (pa_cons (pv 4) (pa_cons (pv 3) pa_nil))))) (pw_or1 (pt_not (pt_val (pe_fn D.amounts hr rfl (pa_cons (pv 5) (pa_cons (pv 3) pa_nil))))))))
      (pss_one (ps_ret (pe_lst (pa_cons (pe_kst N.WRONG_LIST rfl) pa_nil)))) pss_nil)
    (pss_cons (ps_if (pt_cmpR op_ne (pe_callB call_len_seq (by rfl) N.len PySem.boot_len (pa_cons (pv 4) pa_nil)) (pe_callB call_len_seq (by rfl) N.len PySem.boot_len (pa_cons (pv 5) pa_nil)) (nomark _)) (pss_one (ps_ret (pe_lst (pa_cons (pe_kst N.WRONG_LIST rfl) pa_nil)))) pss_nil)
    (pss_one (ps_ret (pe_lst (pa_cons (pe_fn D.toward hr rfl (pa_cons (pv 3) (pa_cons (pv 4) (pa_cons (pv 5) pa_nil)))) pa_nil)))))))), ?_⟩
  have no : isToward s.size c d = false → ∀ r, H r = none → Q (.ref r) (upd H r (.lst (iv [-4]))) := fun h r nr => k.new (ans := [-4]) hP (toward_no fm h) (Same.refl H) nr
  refine ⟨_, rfl, p, dx, _, rfl, hp, no_size _ _, p, a1, a2, _, s, rfl, hP, fm, _, rfl, ls, _, _, _, rfl, rfl, SqL.of hV.at_, atI_nat (j := 0) (hV.ref hb), _, rfl, ls, _, _, _, rfl, rfl, SqL.of hV.at_, atI_nat (j := 1) (hV.ref hb2), ?_⟩
  refine ⟨_, rfl, _, rfl, b, c, (s.size : Int), rfl, SqL.of hbb, _, rfl, ?_⟩
  cases h1 : isAmounts (s.size : Int) c with
  | false => exact iteT (iteT ⟨one_line, no (by unfold isToward; rw [h1]; rfl)⟩)
  | true =>
    refine iteF ⟨_, rfl, _, rfl, b2, d, (s.size : Int), rfl, SqL.of hbb2, _, rfl, ?_⟩
    cases h2 : isAmounts (s.size : Int) d with
    | false => exact iteT ⟨one_line, no (by unfold isToward; rw [h1, h2]; rfl)⟩
    | true =>
      refine iteF ⟨_, rfl, b, _, rfl, .inl (SqL.of hbb), _, rfl, b2, _, rfl, .inl (SqL.of hbb2), rfl, _, rfl, ?_⟩
      rw [iv_length, iv_length]
      by_cases h3 : c.length = d.length
      · rw [decide_eq_true (show V.int (c.length : Int) = V.int (d.length : Int) by rw [h3])]
        obtain ⟨ea, l1, l2, l3, l4, n1, n2⟩ := toward_yes fm (show isToward s.size c d = true by unfold isToward; rw [h1, h2, decide_eq_true h3]; rfl)
        refine iteF ⟨_, rfl, _, rfl, _, rfl, s.size, b, b2, c.map Int.toNat, d.map Int.toNat, rfl, fm.hi, SqL.of (by rw [n1]; exact hbb), SqL.of (by rw [n2]; exact hbb2), l1, l2, l3, l4, one_line, fun r nr => ?_⟩
        exact k.new (ans := [(Vbecaj.toward s.size (c.map Int.toNat) (d.map Int.toNat) : Int)]) hP ea (Same.refl H) nr
      · rw [decide_eq_false (show ¬ V.int (c.length : Int) = V.int (d.length : Int) from fun z => h3 (by have := V.int.inj z; omega))]
        exact iteT ⟨one_line, no (by unfold isToward; rw [decide_eq_false h3, Bool.and_false])⟩
def shTakes : List Int → List (List Int) → Vbecaj.Call → Prop := fun ws lss c => ∃ i a b, ws = [i, a, b] ∧ lss = [] ∧ c = .takes i a b
theorem ok_answer_takes (F : Fn K mg "answer_takes" "answer_takes" s_answer_takes hps) (G : Fns P w K mg base C) (D : Cns P w K mg base) (N : Ks mg) : Has P w K mg base 6 "answer_takes" hps (spHand C shTakes true) := by
  refine F.has (k := 5) sc_answer_takes spHand_len (fun f cdv A outer s0 H vs Q E hr h => ?_)
  obtain ⟨p, w, ls, a1, a2, las, F', s, ws, lss, call, rfl, hP, fm, hw, hV, ⟨i, a, b, rfl, rfl, rfl⟩, k⟩ := h
  have fm := fm rfl
  have hr1 : Room 1 _ := hr.mono (by decide)
  obtain ⟨dx, hp⟩ := hP.obj
  refine ⟨_, pss_cons (ps_set (i := 3) sc_answer_takes.nd rfl (Or.inl rfl) (pe_mt0 G.size (pv 0) G.T.cl hr1))
    (pss_cons (ps_if (pt_not (pt_val (pe_fn D.weights hr rfl (pa_cons (pv 3) (pa_cons (pv 1) pa_nil))))) (pss_one (ps_ret (pe_lst (pa_cons (pe_kst N.NUMBER_OUT_OF_RANGE rfl) pa_nil)))) pss_nil)
    (pss_one (ps_ret (pe_fn D.takes hr rfl (pa_cons (pv 3) (pa_cons (pe_ix ix_list (pv 1) pe_int (fun _ _ => rfl)) (pa_cons (pe_ix ix_list (pv 1) pe_int (fun _ _ => rfl)) (pa_cons (pe_ix ix_list (pv 1) pe_int (fun _ _ => rfl)) pa_nil)))))))), ?_⟩
  have ea : act s (.takes i a b) = withNum s i 0 (s.size : Int) fun i => withNum s a 1 9 fun a => withNum s b 1 9 fun b => (s, [((Vbecaj.lowest (Vbecaj.takes s.size i a b)).1 : Int), ((Vbecaj.lowest (Vbecaj.takes s.size i a b)).2 : Int)]) := by
    unfold act
    exact withCopies_fm fm
  refine ⟨_, rfl, p, dx, _, rfl, hp, no_size _ _, p, a1, a2, _, s, rfl, hP, fm, _, rfl, _, rfl, w, (s.size : Int), i, a, b, rfl, hw, fun H1 s1 => ⟨_, rfl, ?_⟩⟩
  cases h1 : isWeights (s.size : Int) i a b with
  | false => exact iteT ⟨one_line, fun r nr => k.new (ans := [-3]) hP (ea.trans (weights_no h1)) s1 nr⟩
  | true =>
    obtain ⟨hi, ha, hb⟩ := weights_yes h1
    rw [withNum_pos hi, withNum_pos ha, withNum_pos hb] at ea
    have hw1 := s1 _ _ hw
    have hlo := fm.lo
    refine iteF ⟨_, rfl, _, rfl, w, _, _, _, rfl, rfl, SqL.of hw1, atI_nat (j := 0) rfl, _, rfl, w, _, _, _, rfl, rfl, SqL.of hw1, atI_nat (j := 1) rfl, _, rfl, w, _, _, _, rfl, rfl, SqL.of hw1, atI_nat (j := 2) rfl,
      s.size, i.toNat, a.toNat, b.toNat, ?_, by omega, fm.hi, by omega, by omega, by omega, by omega, by omega, fun q nq => ?_⟩
    · rw [← cast_of hi.1, ← cast_of (t := a) (by omega), ← cast_of (t := b) (by omega)]; rfl
    · exact k.new (ans := [_, _]) hP ea s1 nq
def shChances : List Int → List (List Int) → Vbecaj.Call → Prop := fun ws lss c => ∃ i a b, ws = [i, a, b] ∧ lss = [] ∧ c = .chances i a b
theorem ok_answer_chances (F : Fn K mg "answer_chances" "answer_chances" s_answer_chances hps) (G : Fns P w K mg base C) (D : Cns P w K mg base) (N : Ks mg) : Has P w K mg base 6 "answer_chances" hps (spHand C shChances true) := by
  refine F.has (k := 5) sc_answer_chances spHand_len (fun f cdv A outer s0 H vs Q E hr h => ?_)
  obtain ⟨p, w, ls, a1, a2, las, F', s, ws, lss, call, rfl, hP, fm, hw, hV, ⟨i, a, b, rfl, rfl, rfl⟩, k⟩ := h
  have fm := fm rfl
  have hr1 : Room 1 _ := hr.mono (by decide)
  obtain ⟨dx, hp⟩ := hP.obj
  refine ⟨_, pss_cons (ps_set (i := 3) sc_answer_chances.nd rfl (Or.inl rfl) (pe_mt0 G.size (pv 0) G.T.cl hr1))
    (pss_cons (ps_if (pt_not (pt_val (pe_fn D.weights hr rfl (pa_cons (pv 3) (pa_cons (pv 1) pa_nil))))) (pss_one (ps_ret (pe_lst (pa_cons (pe_kst N.NUMBER_OUT_OF_RANGE rfl) pa_nil)))) pss_nil)
    (pss_one (ps_ret (pe_fn D.steps hr rfl (pa_cons (pv 3) (pa_cons (pe_ix ix_list (pv 1) pe_int (fun _ _ => rfl)) (pa_cons (pe_ix ix_list (pv 1) pe_int (fun _ _ => rfl)) (pa_cons (pe_ix ix_list (pv 1) pe_int (fun _ _ => rfl)) pa_nil)))))))), ?_⟩
  have ea : act s (.chances i a b) = withNum s i 0 (s.size : Int) fun i => withNum s a 1 9 fun a => withNum s b 1 9 fun b => (s, [((a * i * (s.size - i) : Nat) : Int), ((b * (s.size - i) * i : Nat) : Int), ((s.size * (a * i + b * (s.size - i)) : Nat) : Int)]) := by
    unfold act
    exact withCopies_fm fm
  refine ⟨_, rfl, p, dx, _, rfl, hp, no_size _ _, p, a1, a2, _, s, rfl, hP, fm, _, rfl, _, rfl, w, (s.size : Int), i, a, b, rfl, hw, fun H1 s1 => ⟨_, rfl, ?_⟩⟩
  cases h1 : isWeights (s.size : Int) i a b with
  | false => exact iteT ⟨one_line, fun r nr => k.new (ans := [-3]) hP (ea.trans (weights_no h1)) s1 nr⟩
  | true =>
    obtain ⟨hi, ha, hb⟩ := weights_yes h1
    rw [withNum_pos hi, withNum_pos ha, withNum_pos hb] at ea
    have hw1 := s1 _ _ hw
    have hlo := fm.lo
    refine iteF ⟨_, rfl, _, rfl, w, _, _, _, rfl, rfl, SqL.of hw1, atI_nat (j := 0) rfl, _, rfl, w, _, _, _, rfl, rfl, SqL.of hw1, atI_nat (j := 1) rfl, _, rfl, w, _, _, _, rfl, rfl, SqL.of hw1, atI_nat (j := 2) rfl,
      s.size, i.toNat, a.toNat, b.toNat, ?_, fm.hi, by omega, by omega, by omega, fun q nq => ?_⟩
    · rw [← cast_of hi.1, ← cast_of (t := a) (by omega), ← cast_of (t := b) (by omega)]; rfl
    · exact k.new (ans := [_, _, _]) hP ea s1 nq
end
end Gd
end
section
set_option Elab.async false
set_option maxRecDepth 100000
set_option maxHeartbeats 2000000
set_option linter.all false
namespace Gd
open PySem PySem.Spec PyProof.Rows L2
section
variable {K : PySem.W.Frag} {h : Heap} {mg : Str → Option Value} {x qual : Str} {st : Stmt} {ps : List Str} {f C : Addr} {oc : Value} {od : Option Addr} {kV doc pm : Value} {an : Option Addr} {cdv ct : Value} {osl : Array (Option Value)}
theorem fn_mk (X : K.In h) (G : h.Ns mainGlobals mg)
    (hb : ∀ (kV doc pm : Value) (an : Option Addr) (cdv ct : Value) (us : List Value), us.length = ps.length → bindArgs (PySem.W.fnOf x qual (defArgs st) (defBody st) (defScope st) .none kV doc pm an cdv ct) ⟨us, []⟩ = pure (ps.zip us))
    (a : PySem.W.nsIn K mainGlobals x = some (some (.ref f))) (l : K.lookup f = some ⟨oc, od, .func (PySem.W.fnOf x qual (defArgs st) (defBody st) (defScope st) .none kV doc pm an cdv ct), osl⟩)
    (c : PySem.W.codeIn K cdv qual = true) (k : PySem.W.keepIn K (.ref f) = true) : Fn K mg x qual st ps :=
  ⟨f, _, PySem.W.mg_of X G a, fun_mk l c k, (fun_mk l c k).binds hb⟩
theorem fm_mk (hb : ∀ (kV doc pm : Value) (an : Option Addr) (cdv ct : Value) (us : List Value), us.length = ps.length → bindArgs (PySem.W.fnOf x qual (defArgs st) (defBody st) (defScope st) .none kV doc pm an cdv ct) ⟨us, []⟩ = pure (ps.zip us))
    (a : PySem.W.findIn K (.ref C) x = some (some (.ref f))) (i : PySem.W.isFn K (.ref f) = true) (l : K.lookup f = some ⟨oc, od, .func (PySem.W.fnOf x qual (defArgs st) (defBody st) (defScope st) .none kV doc pm an cdv ct), osl⟩)
    (c : PySem.W.codeIn K cdv qual = true) (k : PySem.W.keepIn K (.ref f) = true) : FnM K C x qual st ps :=
  ⟨f, _, ⟨a, i, k⟩, fun_mk l c k, (fun_mk l c k).binds hb⟩
theorem fi_mk (hb : ∀ (kV doc pm : Value) (an : Option Addr) (cdv ct : Value) (us : List Value), us.length = ps.length → bindArgs (PySem.W.fnOf "__init__" qual (defArgs st) (defBody st) (defScope st) .none kV doc pm an cdv ct) ⟨us, []⟩ = pure (ps.zip us))
    (m : PySem.W.makesIn K C = true) (a : PySem.W.findIn K (.ref C) "__init__" = some (some (.ref f))) (i : PySem.W.isFn K (.ref f) = true) (n : PySem.W.keepIn K (.ref C) = true) (l : K.lookup f = some ⟨oc, od, .func (PySem.W.fnOf "__init__" qual (defArgs st) (defBody st) (defScope st) .none kV doc pm an cdv ct), osl⟩)
    (c : PySem.W.codeIn K cdv qual = true) (k : PySem.W.keepIn K (.ref f) = true) : FnI K C qual st ps :=
  ⟨f, _, ⟨m, a, i, n⟩, fun_mk l c k, (fun_mk l c k).binds hb⟩
end
theorem dict_mk {K : PySem.W.Frag} {h : Heap} {mg : Str → Option Value} {x : Str} {a : Addr} {es : Array DictEntry} {n : Nat} {R : Array DictEntry → Prop} (X : K.In h) (G : h.Ns mainGlobals mg) (a_ : PySem.W.nsIn K mainGlobals x = some (some (.ref a))) (l : K.lookup a = some ⟨.type "dict", none, .dict es n, #[]⟩)
    (e : intKeys es.toList = true) (m : (a == sysModules) = false) (r : R es) : ∃ a es, mg x = some (.ref a) ∧ KD K a es ∧ R es := ⟨a, es, PySem.W.mg_of X G a_, ⟨⟨n, l⟩, e, m⟩, r⟩
def keysIn (lo hi : Int) (es : Array DictEntry) : Bool := es.toList.all fun e => match e.key with
  | .int k _ => decide (lo ≤ k ∧ k ≤ hi)
  | _ => false
theorem kAt_none {lo hi c : Int} {es : Array DictEntry} (h : keysIn lo hi es = true) (hc : ¬ (lo ≤ c ∧ c ≤ hi)) : kAt es c = none := by
  unfold kAt findBy
  have e : (es.find? fun e => Value.isInt c e.key) = none := by
    rw [← Array.find?_toList, List.find?_eq_none]
    intro x hx z
    have q := List.all_eq_true.mp h x hx
    revert z q
    cases x.key with
    | int k t =>
      intro z q
      have q := of_decide_eq_true q
      have z : (c == k) = true ∨ (k == c) = true := by
        first
          | exact .inl z
          | exact .inr z
      rcases z with z | z
      · rw [eq_of_beq z] at hc; exact hc q
      · rw [← eq_of_beq z] at hc; exact hc q
    | _ => intro z q; cases q
  rw [e]; rfl
theorem ktup_at {K : PySem.W.Frag} {es : Array DictEntry} {c : Int} {t : Addr} {od : Option Addr} {a b : Int} {ta tb : Tok} {n : Nat} {osl : Array (Option Value)} (h : kAt es c = some (.ref t)) (l : K.lookup t = some ⟨.type "tuple", od, .seq #[.int a ta, .int b tb] n, osl⟩) :
    ∃ t, kAt es c = some (.ref t) ∧ KTup K t [.int a, .int b] := by
  refine ⟨t, h, _, _, n, l, rfl, rfl, ?_, ?_⟩
  · show 2 ≤ sizeLine; rw [sizeLine_eq]; decide
  · exact .cons ⟨ta, rfl⟩ (.cons ⟨tb, rfl⟩ .nil)
end Gd
end
section
set_option Elab.async false
set_option maxRecDepth 100000
set_option maxHeartbeats 2000000
set_option linter.all false
namespace Gd
open PySem PySem.Spec PyProof.Rows L2
structure Txt (K : PySem.W.Frag) (mg : Str → Option Value) (C_Population C_Reader : Addr) : Prop where
  f_power : Fn K mg "power" "power" s_power ["base", "exponent"]
  f_count_runs : Fn K mg "count_runs" "count_runs" s_count_runs ["n", "t"]
  f_count_with_one_more : Fn K mg "count_with_one_more" "count_with_one_more" s_count_with_one_more ["n", "counts", "k"]
  f_count_parents : Fn K mg "count_parents" "count_parents" s_count_parents ["n", "m"]
  f_counts_one_earlier : Fn K mg "counts_one_earlier" "counts_one_earlier" s_counts_one_earlier ["n", "counts"]
  f_count_merge : Fn K mg "count_merge" "count_merge" s_count_merge ["n", "m", "t"]
  f_choose : Fn K mg "choose" "choose" s_choose ["size", "amount"]
  f_count_draws : Fn K mg "count_draws" "count_draws" s_count_draws ["n", "i", "j"]
  f_counts_at_start : Fn K mg "counts_at_start" "counts_at_start" s_counts_at_start ["n", "i"]
  f_counts_one_later : Fn K mg "counts_one_later" "counts_one_later" s_counts_one_later ["n", "counts"]
  f_count_ways : Fn K mg "count_ways" "count_ways" s_count_ways ["n", "i", "t"]
  f_count_first : Fn K mg "count_first" "count_first" s_count_first ["n", "i", "t"]
  f_sum_unlike : Fn K mg "sum_unlike" "sum_unlike" s_sum_unlike ["n", "i", "t"]
  f_count_toward : Fn K mg "count_toward" "count_toward" s_count_toward ["n", "old_amounts", "new_amounts"]
  k_NO_SUCH_CALL : Kst mg "NO_SUCH_CALL" (-100)
  k_NO_COPIES : Kst mg "NO_COPIES" (-1)
  k_NUMBER_OUT_OF_RANGE : Kst mg "NUMBER_OUT_OF_RANGE" (-3)
  k_WRONG_LIST : Kst mg "WRONG_LIST" (-4)
  k_TOO_MANY : Kst mg "TOO_MANY" (-5)
  k_NOTHING_TO_UNDO : Kst mg "NOTHING_TO_UNDO" (-6)
  k_LAST_GENERATION : Kst mg "LAST_GENERATION" (-8)
  f_is_within : Fn K mg "is_within" "is_within" s_is_within ["number", "low", "high"]
  f_are_within : Fn K mg "are_within" "are_within" s_are_within ["numbers", "low", "high"]
  f_is_list_within : Fn K mg "is_list_within" "is_list_within" s_is_list_within ["members", "shortest", "longest", "low", "high"]
  f_lowest_terms : Fn K mg "lowest_terms" "lowest_terms" s_lowest_terms ["top", "bottom"]
  f_chance_to_take_over : Fn K mg "chance_to_take_over" "chance_to_take_over" s_chance_to_take_over ["n", "i", "a", "b"]
  f_step_chances : Fn K mg "step_chances" "step_chances" s_step_chances ["n", "i", "a", "b"]
  k_MOST_GENERATIONS : Kst mg "MOST_GENERATIONS" (20)
  k_MOST_RUNS : Kst mg "MOST_RUNS" (1000000000000000000)
  k_MOST_LISTED_KINDS : Kst mg "MOST_LISTED_KINDS" (10)
  k_MOST_LISTED_COPIES : Kst mg "MOST_LISTED_COPIES" (15)
  k_HIGHEST_WEIGHT : Kst mg "HIGHEST_WEIGHT" (9)
  f_refusal_over_runs : Fn K mg "refusal_over_runs" "refusal_over_runs" s_refusal_over_runs ["n", "amounts", "least", "t"]
  f_answer_all : Fn K mg "answer_all" "answer_all" s_answer_all ["population", "wholes", "lists"]
  f_answer_ways : Fn K mg "answer_ways" "answer_ways" s_answer_ways ["population", "wholes", "lists"]
  f_answer_first : Fn K mg "answer_first" "answer_first" s_answer_first ["population", "wholes", "lists"]
  f_answer_merge : Fn K mg "answer_merge" "answer_merge" s_answer_merge ["population", "wholes", "lists"]
  f_answer_alike : Fn K mg "answer_alike" "answer_alike" s_answer_alike ["population", "wholes", "lists"]
  f_answer_unlike : Fn K mg "answer_unlike" "answer_unlike" s_answer_unlike ["population", "wholes", "lists"]
  f_are_amounts_of_kinds : Fn K mg "are_amounts_of_kinds" "are_amounts_of_kinds" s_are_amounts_of_kinds ["amounts", "n"]
  f_answer_toward : Fn K mg "answer_toward" "answer_toward" s_answer_toward ["population", "wholes", "lists"]
  f_are_copies_and_weights : Fn K mg "are_copies_and_weights" "are_copies_and_weights" s_are_copies_and_weights ["n", "wholes"]
  f_answer_takes : Fn K mg "answer_takes" "answer_takes" s_answer_takes ["population", "wholes", "lists"]
  f_answer_chances : Fn K mg "answer_chances" "answer_chances" s_answer_chances ["population", "wholes", "lists"]
  d_COUNTING_CALLS : ∃ a es, mg "COUNTING_CALLS" = some (.ref a) ∧ KD K a es ∧ keysIn (8) (16) es = true ∧ kAt es 8 = mg "answer_all" ∧ kAt es 9 = mg "answer_ways" ∧ kAt es 10 = mg "answer_first" ∧ kAt es 11 = mg "answer_merge" ∧ kAt es 12 = mg "answer_alike" ∧ kAt es 13 = mg "answer_unlike" ∧ kAt es 14 = mg "answer_toward" ∧ kAt es 15 = mg "answer_takes" ∧ kAt es 16 = mg "answer_chances"
  f_is_counting_call : Fn K mg "is_counting_call" "is_counting_call" s_is_counting_call ["number"]
  f_answer_counting : Fn K mg "answer_counting" "answer_counting" s_answer_counting ["population", "number", "wholes", "lists"]
  f_parents_of : Fn K mg "parents_of" "parents_of" s_parents_of ["copies", "draws"]
  f_ancestors_of : Fn K mg "ancestors_of" "ancestors_of" s_ancestors_of ["copies", "draw_rows", "t"]
  f_common_ancestor : Fn K mg "common_ancestor" "common_ancestor" s_common_ancestor ["copies", "draw_rows"]
  k_MOST_COPIES : Kst mg "MOST_COPIES" (15)
  k_HIGHEST_KIND : Kst mg "HIGHEST_KIND" (9)
  k_HIGHEST_GENERATION : Kst mg "HIGHEST_GENERATION" (100)
  f_answer_found : Fn K mg "answer_found" "answer_found" s_answer_found ["population", "wholes", "lists"]
  f_answer_now : Fn K mg "answer_now" "answer_now" s_answer_now ["population", "wholes", "lists"]
  f_answer_turn : Fn K mg "answer_turn" "answer_turn" s_answer_turn ["population", "wholes", "lists"]
  f_answer_undo : Fn K mg "answer_undo" "answer_undo" s_answer_undo ["population", "wholes", "lists"]
  f_answer_number : Fn K mg "answer_number" "answer_number" s_answer_number ["population", "wholes", "lists"]
  f_answer_back : Fn K mg "answer_back" "answer_back" s_answer_back ["population", "wholes", "lists"]
  f_answer_common : Fn K mg "answer_common" "answer_common" s_answer_common ["population", "wholes", "lists"]
  f_answer_lines : Fn K mg "answer_lines" "answer_lines" s_answer_lines ["population", "wholes", "lists"]
  d_HISTORY_CALLS : ∃ a es, mg "HISTORY_CALLS" = some (.ref a) ∧ KD K a es ∧ keysIn (0) (7) es = true ∧ kAt es 0 = mg "answer_found" ∧ kAt es 1 = mg "answer_now" ∧ kAt es 2 = mg "answer_turn" ∧ kAt es 3 = mg "answer_undo" ∧ kAt es 4 = mg "answer_number" ∧ kAt es 5 = mg "answer_back" ∧ kAt es 6 = mg "answer_common" ∧ kAt es 7 = mg "answer_lines"
  f_is_history_call : Fn K mg "is_history_call" "is_history_call" s_is_history_call ["number"]
  f_answer_history : Fn K mg "answer_history" "answer_history" s_answer_history ["population", "number", "wholes", "lists"]
  c_Population : mg "Population" = some (.ref C_Population)
  k_Population : Cls K C_Population
  n_Population_draw_rows : NoAttr K C_Population "draw_rows"
  n_Population_kind_rows : NoAttr K C_Population "kind_rows"
  i_Population : FnI K C_Population "Population.__init__" s_Population___init__ ["self"]
  m_Population_has_copies : FnM K C_Population "has_copies" "Population.has_copies" s_Population_has_copies ["self"]
  m_Population_generation : FnM K C_Population "generation" "Population.generation" s_Population_generation ["self"]
  m_Population_size : FnM K C_Population "size" "Population.size" s_Population_size ["self"]
  m_Population_newest_kinds : FnM K C_Population "newest_kinds" "Population.newest_kinds" s_Population_newest_kinds ["self"]
  m_Population_begin : FnM K C_Population "begin" "Population.begin" s_Population_begin ["self", "kinds"]
  m_Population_turn : FnM K C_Population "turn" "Population.turn" s_Population_turn ["self", "draws"]
  m_Population_undo : FnM K C_Population "undo" "Population.undo" s_Population_undo ["self"]
  d_SHAPES : ∃ a es, mg "SHAPES" = some (.ref a) ∧ KD K a es ∧ (∃ t, kAt es 0 = some (.ref t) ∧ KTup K t [.int 0, .int 1]) ∧ (∃ t, kAt es 1 = some (.ref t) ∧ KTup K t [.int 0, .int 0]) ∧ (∃ t, kAt es 2 = some (.ref t) ∧ KTup K t [.int 0, .int 1]) ∧ (∃ t, kAt es 3 = some (.ref t) ∧ KTup K t [.int 0, .int 0]) ∧ (∃ t, kAt es 4 = some (.ref t) ∧ KTup K t [.int 1, .int 0]) ∧ (∃ t, kAt es 5 = some (.ref t) ∧ KTup K t [.int 2, .int 0]) ∧ (∃ t, kAt es 6 = some (.ref t) ∧ KTup K t [.int 0, .int 1]) ∧ (∃ t, kAt es 7 = some (.ref t) ∧ KTup K t [.int 1, .int 0]) ∧ (∃ t, kAt es 8 = some (.ref t) ∧ KTup K t [.int 1, .int 0]) ∧ (∃ t, kAt es 9 = some (.ref t) ∧ KTup K t [.int 3, .int 0]) ∧ (∃ t, kAt es 10 = some (.ref t) ∧ KTup K t [.int 2, .int 0]) ∧ (∃ t, kAt es 11 = some (.ref t) ∧ KTup K t [.int 3, .int 0]) ∧ (∃ t, kAt es 12 = some (.ref t) ∧ KTup K t [.int 1, .int 0]) ∧ (∃ t, kAt es 13 = some (.ref t) ∧ KTup K t [.int 2, .int 0]) ∧ (∃ t, kAt es 14 = some (.ref t) ∧ KTup K t [.int 0, .int 2]) ∧ (∃ t, kAt es 15 = some (.ref t) ∧ KTup K t [.int 3, .int 0]) ∧ (∃ t, kAt es 16 = some (.ref t) ∧ KTup K t [.int 3, .int 0])
  c_Reader : mg "Reader" = some (.ref C_Reader)
  k_Reader : Cls K C_Reader
  n_Reader_numbers : NoAttr K C_Reader "numbers"
  n_Reader_place : NoAttr K C_Reader "place"
  i_Reader : FnI K C_Reader "Reader.__init__" s_Reader___init__ ["self", "numbers"]
  m_Reader_is_at_end : FnM K C_Reader "is_at_end" "Reader.is_at_end" s_Reader_is_at_end ["self"]
  m_Reader_take : FnM K C_Reader "take" "Reader.take" s_Reader_take ["self", "amount"]
  f_shape_of : Fn K mg "shape_of" "shape_of" s_shape_of ["number"]
  f_read_call : Fn K mg "read_call" "read_call" s_read_call ["reader"]
  f_read_calls : Fn K mg "read_calls" "read_calls" s_read_calls ["numbers"]
  k_FOUND : Kst mg "FOUND" (0)
  f_is_call : Fn K mg "is_call" "is_call" s_is_call ["rows"]
  f_answer_call : Fn K mg "answer_call" "answer_call" s_answer_call ["population", "rows"]
  b_len : mg "len" = none
  b_list : mg "list" = none
  b_set : mg "set" = none
  b_range : mg "range" = none
  b_sum : mg "sum" = none
end Gd
end
section
set_option Elab.async false
set_option maxRecDepth 100000
set_option maxHeartbeats 2000000
set_option linter.all false
namespace Gd
open PySem PySem.Spec PyProof.Rows L2
open Vbecaj (State act)
section
variable {P : Program} {w : World} {K : PySem.W.Frag} {mg : Str → Option Value} {base : Heap} {C R : Addr}
theorem shapes_of (T : Txt K mg C R) : Shapes K mg := by
  obtain ⟨a, es, hm, hd, h0, h1, h2, h3, h4, h5, h6, h7, h8, h9, h10, h11, h12, h13, h14, h15, h16⟩ := T.d_SHAPES
  refine ⟨a, es, hm, hd, fun p n k h => ?_⟩
  rcases shape_cases h with ⟨rfl, rfl, rfl⟩ | ⟨rfl, rfl, rfl⟩ | ⟨rfl, rfl, rfl⟩ | ⟨rfl, rfl, rfl⟩ | ⟨rfl, rfl, rfl⟩ | ⟨rfl, rfl, rfl⟩ | ⟨rfl, rfl, rfl⟩ | ⟨rfl, rfl, rfl⟩ | ⟨rfl, rfl, rfl⟩ | ⟨rfl, rfl, rfl⟩ | ⟨rfl, rfl, rfl⟩ | ⟨rfl, rfl, rfl⟩ | ⟨rfl, rfl, rfl⟩ | ⟨rfl, rfl, rfl⟩ | ⟨rfl, rfl, rfl⟩ | ⟨rfl, rfl, rfl⟩ | ⟨rfl, rfl, rfl⟩
  · exact h0
  · exact h1
  · exact h2
  · exact h3
  · exact h4
  · exact h5
  · exact h6
  · exact h7
  · exact h8
  · exact h9
  · exact h10
  · exact h11
  · exact h12
  · exact h13
  · exact h14
  · exact h15
  · exact h16
theorem ks_of (T : Txt K mg C R) : Ks mg := ⟨T.k_NO_SUCH_CALL, T.k_NO_COPIES, T.k_NUMBER_OUT_OF_RANGE, T.k_WRONG_LIST, T.k_TOO_MANY, T.k_NOTHING_TO_UNDO, T.k_LAST_GENERATION, T.k_MOST_GENERATIONS, T.k_MOST_RUNS, T.k_MOST_COPIES, T.k_HIGHEST_KIND, T.k_HIGHEST_GENERATION, T.k_FOUND, T.b_len, T.b_list, T.b_set, T.b_range⟩
theorem fns_of (T : Txt K mg C R) : Fns P w K mg base C := by
  have c : PCls K C := ⟨T.k_Population, T.n_Population_kind_rows, T.n_Population_draw_rows⟩
  have hW : Has P w K mg base 1 "is_within" ["number", "low", "high"] spWithin := ok_is_within T.f_is_within
  have hP : Has P w K mg base 1 "parents_of" ["copies", "draws"] (spParents K) := ok_parents_of T.f_parents_of
  exact ⟨c, ok_Pop_has T.m_Population_has_copies c T.b_len, ok_Pop_gen T.m_Population_generation c T.b_len, ok_Pop_size T.m_Population_size c T.b_len, ok_Pop_newest T.m_Population_newest_kinds c T.b_list, ok_Pop_begin T.m_Population_begin c T.b_list, ok_Pop_turn T.m_Population_turn c T.b_list, ok_Pop_undo T.m_Population_undo c, hW,
    ok_is_list_within T.f_is_list_within hW (ok_are_within T.f_are_within hW) T.b_len, (ok_ancestors_of T.f_ancestors_of hP T.b_len T.b_list T.b_range).mono (by decide), (ok_common_ancestor T.f_common_ancestor hP T.b_len T.b_list T.b_set).mono (by decide)⟩
theorem callee_at {es : Array DictEntry} {x : Str} {k : Nat} {c : Int} {sh : List Int → List (List Int) → Vbecaj.Call → Prop} {cop : Bool} (e : kAt es c = mg x) (h : Has P w K mg base k x hps (spHand C sh cop)) (hk : k ≤ 6) (hc : ∀ ws lss call, shp c ws lss call → sh ws lss call) (hcop : cop = true → c ≠ 0) :
    ∃ f, kAt es c = some (.ref f) ∧ Callee P w K mg base 6 hps f (spHand C (shp c) (decide (c ≠ 0))) := by
  have h' := h
  obtain ⟨f, fd, hm, _⟩ := h'
  exact ⟨f, e.trans hm, callee_of h hk hm hc hcop⟩
theorem hands_hist (T : Txt K mg C R) : Hands P w K mg base C "HISTORY_CALLS" 0 7 := by
  have G : Fns P w K mg base C := fns_of T
  have N := ks_of T
  obtain ⟨a, es, hm, hd, hk, h0, h1, h2, h3, h4, h5, h6, h7⟩ := T.d_HISTORY_CALLS
  refine ⟨a, es, hm, hd, fun c l1 l2 => ?_, fun c hc => kAt_none hk hc⟩
  obtain rfl | rfl | rfl | rfl | rfl | rfl | rfl | rfl : c = 0 ∨ c = 1 ∨ c = 2 ∨ c = 3 ∨ c = 4 ∨ c = 5 ∨ c = 6 ∨ c = 7 := by omega
  · exact callee_at h0 (ok_answer_found T.f_answer_found G N) (by decide) (fun _ _ _ h => shp_found h) (by decide)
  · exact callee_at h1 (ok_answer_now T.f_answer_now G) (by decide) (fun _ _ _ h => shp_now h) (by decide)
  · exact callee_at h2 (ok_answer_turn T.f_answer_turn G N) (by decide) (fun _ _ _ h => shp_turn h) (by decide)
  · exact callee_at h3 (ok_answer_undo T.f_answer_undo G N) (by decide) (fun _ _ _ h => shp_undo h) (by decide)
  · exact callee_at h4 (ok_answer_number T.f_answer_number G N) (by decide) (fun _ _ _ h => shp_number h) (by decide)
  · exact callee_at h5 (ok_answer_back T.f_answer_back G N) (by decide) (fun _ _ _ h => shp_back h) (by decide)
  · exact callee_at h6 (ok_answer_common T.f_answer_common G N) (by decide) (fun _ _ _ h => shp_common h) (by decide)
  · exact callee_at h7 (ok_answer_lines T.f_answer_lines G N) (by decide) (fun _ _ _ h => shp_lines h) (by decide)
theorem ks2_of (T : Txt K mg C R) : Ks2 mg := ⟨T.k_MOST_LISTED_KINDS, T.k_MOST_LISTED_COPIES, T.k_HIGHEST_WEIGHT, T.b_sum⟩
theorem cns_of (T : Txt K mg C R) : Cns P w K mg base := by
  have N := ks_of T
  have N2 := ks2_of T
  have hW : Has P w K mg base 1 "is_within" ["number", "low", "high"] spWithin := ok_is_within T.f_is_within
  have hA : Has P w K mg base 2 "are_within" ["numbers", "low", "high"] (spAreWithin K) := ok_are_within T.f_are_within hW
  have hLW : Has P w K mg base 3 "is_list_within" ["members", "shortest", "longest", "low", "high"] (spListWithin K) := ok_is_list_within T.f_is_list_within hW hA T.b_len
  have hP : Has P w K mg base 1 "power" ["base", "exponent"] spPower := ok_power T.f_power T.b_range
  have hR : Has P w K mg base 2 "count_runs" ["n", "t"] spRuns := ok_count_runs T.f_count_runs hP
  have hC : Has P w K mg base 1 "choose" ["size", "amount"] spChoose := ok_choose T.f_choose T.b_range
  have hD : Has P w K mg base 2 "count_draws" ["n", "i", "j"] spDraws := ok_count_draws T.f_count_draws hC hP
  have hS : Has P w K mg base 1 "counts_at_start" ["n", "i"] spStart := ok_counts_at_start T.f_counts_at_start
  have hL : Has P w K mg base 3 "counts_one_later" ["n", "counts"] (spLater K) := ok_counts_one_later T.f_counts_one_later hD T.b_range
  have hWy : Has P w K mg base 4 "count_ways" ["n", "i", "t"] spWays := ok_count_ways T.f_count_ways hS hL T.b_range
  have hPN : Has P w K mg base 2 "count_parents" ["n", "m"] spParentsN := ok_count_parents T.f_count_parents (ok_count_with_one_more T.f_count_with_one_more) T.b_range
  have hE : Has P w K mg base 3 "counts_one_earlier" ["n", "counts"] (spEarlier K) := ok_counts_one_earlier T.f_counts_one_earlier hP hPN T.b_range
  exact ⟨(ok_refusal_over_runs T.f_refusal_over_runs hA hW hR N).mono (by decide), hR.mono (by decide), hWy.mono (by decide), (ok_count_first T.f_count_first hS hL T.b_range).mono (by decide), (ok_count_merge T.f_count_merge hE T.b_range).mono (by decide), ok_sum_unlike T.f_sum_unlike hWy T.b_range T.b_sum,
    (ok_are_amounts_of_kinds T.f_are_amounts_of_kinds hLW N2).mono (by decide), (ok_count_toward T.f_count_toward hC hP T.b_range T.b_len).mono (by decide), (ok_are_copies_and_weights T.f_are_copies_and_weights hW hA N2).mono (by decide),
    (ok_chance_to_take_over T.f_chance_to_take_over hP (ok_lowest_terms T.f_lowest_terms) T.b_range).mono (by decide), (ok_step_chances T.f_step_chances).mono (by decide)⟩
theorem hands_cnt (T : Txt K mg C R) : Hands P w K mg base C "COUNTING_CALLS" 8 16 := by
  have G : Fns P w K mg base C := fns_of T
  have D : Cns P w K mg base := cns_of T
  have N := ks_of T
  obtain ⟨a, es, hm, hd, hk, h8, h9, h10, h11, h12, h13, h14, h15, h16⟩ := T.d_COUNTING_CALLS
  refine ⟨a, es, hm, hd, fun c l1 l2 => ?_, fun c hc => kAt_none hk hc⟩
  obtain rfl | rfl | rfl | rfl | rfl | rfl | rfl | rfl | rfl : c = 8 ∨ c = 9 ∨ c = 10 ∨ c = 11 ∨ c = 12 ∨ c = 13 ∨ c = 14 ∨ c = 15 ∨ c = 16 := by omega
  · exact callee_at h8 (ok_answer_all T.f_answer_all G D N) (by decide) (fun _ _ _ h => shp_all h) (by decide)
  · exact callee_at h9 (ok_answer_ways T.f_answer_ways G D N) (by decide) (fun _ _ _ h => shp_ways h) (by decide)
  · exact callee_at h10 (ok_answer_first T.f_answer_first G D N) (by decide) (fun _ _ _ h => shp_first h) (by decide)
  · exact callee_at h11 (ok_answer_merge T.f_answer_merge G D N) (by decide) (fun _ _ _ h => shp_merge h) (by decide)
  · exact callee_at h12 (ok_answer_alike T.f_answer_alike G D N) (by decide) (fun _ _ _ h => shp_alike h) (by decide)
  · exact callee_at h13 (ok_answer_unlike T.f_answer_unlike G D N) (by decide) (fun _ _ _ h => shp_unlike h) (by decide)
  · exact callee_at h14 (ok_answer_toward T.f_answer_toward G D N) (by decide) (fun _ _ _ h => shp_toward h) (by decide)
  · exact callee_at h15 (ok_answer_takes T.f_answer_takes G D N) (by decide) (fun _ _ _ h => shp_takes h) (by decide)
  · exact callee_at h16 (ok_answer_chances T.f_answer_chances G D N) (by decide) (fun _ _ _ h => shp_chances h) (by decide)
theorem all_ok {f : Addr} {fd : FuncData} (T : Txt K mg C R) (F : Fun K "answers" "answers" s_answers f fd) : FnOk P w K mg base CX0 9 f fd ["calls"] (spAnswers K) := by
  have G : Fns P w K mg base C := fns_of T
  have N := ks_of T
  have hh : Hands P w K mg base C "HISTORY_CALLS" 0 7 := hands_hist T
  have hc : Hands P w K mg base C "COUNTING_CALLS" 8 16 := hands_cnt T
  have S := shapes_of T
  have r : RCls K R := ⟨T.k_Reader, T.n_Reader_numbers, T.n_Reader_place⟩
  have hS : Has P w K mg base 1 "shape_of" ["number"] (spShape K) := ok_shape_of T.f_shape_of S
  have hT : HasM P w K mg base 1 R "take" ["self", "amount"] (spRTake K R) := ok_Reader_take T.m_Reader_take r T.b_len
  have hRC : Has P w K mg base 2 "read_call" ["reader"] (spRead K R) := ok_read_call T.f_read_call r hT hS T.b_range
  have hR : Has P w K mg base 3 "read_calls" ["numbers"] (spReadAll K) := ok_read_calls T.f_read_calls r T.c_Reader (ok_Reader_init T.i_Reader r) (ok_Reader_end T.m_Reader_is_at_end r T.b_len) hRC
  have hH : Has P w K mg base 1 "is_history_call" ["number"] (spIs 0 7) := ok_is_history_call T.f_is_history_call hh
  have hC : Has P w K mg base 1 "is_counting_call" ["number"] (spIs 8 16) := ok_is_counting_call T.f_is_counting_call hc
  have hA : Has P w K mg base 8 "answer_call" ["population", "rows"] (spCall C) := ok_answer_call T.f_answer_call G N (ok_is_call T.f_is_call hH hC hS T.b_len) hH (ok_answer_history T.f_answer_history hh) (ok_answer_counting T.f_answer_counting hc)
  exact ok_answers F T.c_Population (ok_Pop_init T.i_Population G.T) hR hA T.b_len
end
end Gd
end
section
namespace Gd
open PySem PySem.Spec PyProof.Rows L2
theorem all_mk {P : Program} {w : World} {K : PySem.W.Frag} {mg : Str → Option Value} {fa C R f : Addr} {oc : Value} {od : Option Addr} {kV doc pm : Value} {an : Option Addr} {cdv ct : Value} {osl : Array (Option Value)} (hfa : mg "answers" = some (.ref fa)) (a : mg "answers" = some (.ref f))
    (l : K.lookup f = some ⟨oc, od, .func (PySem.W.fnOf "answers" "answers" (defArgs s_answers) (defBody s_answers) (defScope s_answers) .none kV doc pm an cdv ct), osl⟩) (c : PySem.W.codeIn K cdv "answers" = true) (k : PySem.W.keepIn K (.ref f) = true) (T : Txt K mg C R) :
    ∃ fd : FuncData, (∀ (s : Shared) (us : List Value), us.length = (["calls"] : List Str).length → BindsTo s fd ⟨us, []⟩ ((["calls"] : List Str).zip us)) ∧ ∀ base : Heap, K.In base → base.Ns mainGlobals mg → FnOk P w K mg base CX0 9 fa fd ["calls"] (spAnswers K) := by
  have e := hfa.symm.trans a
  cases e
  exact ⟨_, fun s us hu => match us, hu with | [_], _ => .of_eq rfl, fun base _ _ => all_ok T (fun_mk l c k)⟩
end Gd
def PySem.W.Fast.tw107062212233183869 : Unit := ()
def PySem.W.Fast.tw6020637481297490995 : Unit := ()
def PySem.W.Fast.tw1941494515664168043 : Unit := ()
def PySem.W.Fast.tw10373502508284713498 : Unit := ()
def PySem.W.Fast.tw3624509740619098068 : Unit := ()
def PySem.W.Fast.tw18238708188386482295 : Unit := ()
def PySem.W.Fast.tw2162574888154589813 : Unit := ()
def PySem.W.Fast.tw7970740465406340926 : Unit := ()
def PySem.W.Fast.tw3570167418470339310 : Unit := ()
def PySem.W.Fast.tw11523033775142762504 : Unit := ()
open PySem PySem.W PyProof.Rows
set_option Elab.async false
set_option maxRecDepth 100000 in
set_option maxHeartbeats 0 in
theorem PySem.Challenge.cw_genedrift_s01_answers_holds : PySem.Challenge.rw_genedrift_s01_answers.Holds := by
  w_on; k_headS; (case hw => exact ⟨[.list [.int 1]], by decide +kernel, by decide +kernel⟩)
  k_fillS
  refine L2.walk_specK (r := PySem.Challenge.rw_genedrift_s01_answers) (k := 9) (CX := L2.CX0) (ps := ["calls"]) (sp := Gd.spAnswers) (by decide +kernel) rfl rfl ⟨rfl, by decide, by decide⟩ (fun w h Y => PySem.W.kIn_of Y) ?F ?S (fun _ _ _ _ z => z)
  case F =>
    intro w mg fa h Y KX G hmg
    refine' Gd.all_mk hmg (PySem.W.mg_of KX G ?a) ?l ?c ?k ?T
    (case a => k_is); (case l => k_is); (case c => k_is); (case k => k_is)
    case T =>
      refine' ⟨?f_power, ?f_count_runs, ?f_count_with_one_more, ?f_count_parents, ?f_counts_one_earlier, ?f_count_merge, ?f_choose, ?f_count_draws, ?f_counts_at_start, ?f_counts_one_later, ?f_count_ways, ?f_count_first, ?f_sum_unlike, ?f_count_toward, ?k_NO_SUCH_CALL, ?k_NO_COPIES, ?k_NUMBER_OUT_OF_RANGE, ?k_WRONG_LIST, ?k_TOO_MANY, ?k_NOTHING_TO_UNDO, ?k_LAST_GENERATION, ?f_is_within, ?f_are_within, ?f_is_list_within, ?f_lowest_terms, ?f_chance_to_take_over, ?f_step_chances, ?k_MOST_GENERATIONS, ?k_MOST_RUNS, ?k_MOST_LISTED_KINDS, ?k_MOST_LISTED_COPIES, ?k_HIGHEST_WEIGHT, ?f_refusal_over_runs, ?f_answer_all, ?f_answer_ways, ?f_answer_first, ?f_answer_merge, ?f_answer_alike, ?f_answer_unlike, ?f_are_amounts_of_kinds, ?f_answer_toward, ?f_are_copies_and_weights, ?f_answer_takes, ?f_answer_chances, ?d_COUNTING_CALLS, ?f_is_counting_call, ?f_answer_counting, ?f_parents_of, ?f_ancestors_of, ?f_common_ancestor, ?k_MOST_COPIES, ?k_HIGHEST_KIND, ?k_HIGHEST_GENERATION, ?f_answer_found, ?f_answer_now, ?f_answer_turn, ?f_answer_undo, ?f_answer_number, ?f_answer_back, ?f_answer_common, ?f_answer_lines, ?d_HISTORY_CALLS, ?f_is_history_call, ?f_answer_history, ?c_Population, ?k_Population, ?n_Population_draw_rows, ?n_Population_kind_rows, ?i_Population, ?m_Population_has_copies, ?m_Population_generation, ?m_Population_size, ?m_Population_newest_kinds, ?m_Population_begin, ?m_Population_turn, ?m_Population_undo, ?d_SHAPES, ?c_Reader, ?k_Reader, ?n_Reader_numbers, ?n_Reader_place, ?i_Reader, ?m_Reader_is_at_end, ?m_Reader_take, ?f_shape_of, ?f_read_call, ?f_read_calls, ?k_FOUND, ?f_is_call, ?f_answer_call, ?b_len, ?b_list, ?b_set, ?b_range, ?b_sum⟩
      case f_power => (refine' Gd.fn_mk KX G (fun _ _ _ _ _ _ us hl => match us, hl with | [_, _], _ => rfl) ?a ?l ?c ?k; (case a => k_is); (case l => k_is); (case c => k_is); (case k => k_is))
      case f_count_runs => (refine' Gd.fn_mk KX G (fun _ _ _ _ _ _ us hl => match us, hl with | [_, _], _ => rfl) ?a ?l ?c ?k; (case a => k_is); (case l => k_is); (case c => k_is); (case k => k_is))
      case f_count_with_one_more => (refine' Gd.fn_mk KX G (fun _ _ _ _ _ _ us hl => match us, hl with | [_, _, _], _ => rfl) ?a ?l ?c ?k; (case a => k_is); (case l => k_is); (case c => k_is); (case k => k_is))
      case f_count_parents => (refine' Gd.fn_mk KX G (fun _ _ _ _ _ _ us hl => match us, hl with | [_, _], _ => rfl) ?a ?l ?c ?k; (case a => k_is); (case l => k_is); (case c => k_is); (case k => k_is))
      case f_counts_one_earlier => (refine' Gd.fn_mk KX G (fun _ _ _ _ _ _ us hl => match us, hl with | [_, _], _ => rfl) ?a ?l ?c ?k; (case a => k_is); (case l => k_is); (case c => k_is); (case k => k_is))
      case f_count_merge => (refine' Gd.fn_mk KX G (fun _ _ _ _ _ _ us hl => match us, hl with | [_, _, _], _ => rfl) ?a ?l ?c ?k; (case a => k_is); (case l => k_is); (case c => k_is); (case k => k_is))
      case f_choose => (refine' Gd.fn_mk KX G (fun _ _ _ _ _ _ us hl => match us, hl with | [_, _], _ => rfl) ?a ?l ?c ?k; (case a => k_is); (case l => k_is); (case c => k_is); (case k => k_is))
      case f_count_draws => (refine' Gd.fn_mk KX G (fun _ _ _ _ _ _ us hl => match us, hl with | [_, _, _], _ => rfl) ?a ?l ?c ?k; (case a => k_is); (case l => k_is); (case c => k_is); (case k => k_is))
      case f_counts_at_start => (refine' Gd.fn_mk KX G (fun _ _ _ _ _ _ us hl => match us, hl with | [_, _], _ => rfl) ?a ?l ?c ?k; (case a => k_is); (case l => k_is); (case c => k_is); (case k => k_is))
      case f_counts_one_later => (refine' Gd.fn_mk KX G (fun _ _ _ _ _ _ us hl => match us, hl with | [_, _], _ => rfl) ?a ?l ?c ?k; (case a => k_is); (case l => k_is); (case c => k_is); (case k => k_is))
      case f_count_ways => (refine' Gd.fn_mk KX G (fun _ _ _ _ _ _ us hl => match us, hl with | [_, _, _], _ => rfl) ?a ?l ?c ?k; (case a => k_is); (case l => k_is); (case c => k_is); (case k => k_is))
      case f_count_first => (refine' Gd.fn_mk KX G (fun _ _ _ _ _ _ us hl => match us, hl with | [_, _, _], _ => rfl) ?a ?l ?c ?k; (case a => k_is); (case l => k_is); (case c => k_is); (case k => k_is))
      case f_sum_unlike => (refine' Gd.fn_mk KX G (fun _ _ _ _ _ _ us hl => match us, hl with | [_, _, _], _ => rfl) ?a ?l ?c ?k; (case a => k_is); (case l => k_is); (case c => k_is); (case k => k_is))
      case f_count_toward => (refine' Gd.fn_mk KX G (fun _ _ _ _ _ _ us hl => match us, hl with | [_, _, _], _ => rfl) ?a ?l ?c ?k; (case a => k_is); (case l => k_is); (case c => k_is); (case k => k_is))
      case k_NO_SUCH_CALL => exact ⟨_, PySem.W.mg_of KX G (by k_is)⟩
      case k_NO_COPIES => exact ⟨_, PySem.W.mg_of KX G (by k_is)⟩
      case k_NUMBER_OUT_OF_RANGE => exact ⟨_, PySem.W.mg_of KX G (by k_is)⟩
      case k_WRONG_LIST => exact ⟨_, PySem.W.mg_of KX G (by k_is)⟩
      case k_TOO_MANY => exact ⟨_, PySem.W.mg_of KX G (by k_is)⟩
      case k_NOTHING_TO_UNDO => exact ⟨_, PySem.W.mg_of KX G (by k_is)⟩
      case k_LAST_GENERATION => exact ⟨_, PySem.W.mg_of KX G (by k_is)⟩
      case f_is_within => (refine' Gd.fn_mk KX G (fun _ _ _ _ _ _ us hl => match us, hl with | [_, _, _], _ => rfl) ?a ?l ?c ?k; (case a => k_is); (case l => k_is); (case c => k_is); (case k => k_is))
      case f_are_within => (refine' Gd.fn_mk KX G (fun _ _ _ _ _ _ us hl => match us, hl with | [_, _, _], _ => rfl) ?a ?l ?c ?k; (case a => k_is); (case l => k_is); (case c => k_is); (case k => k_is))
      case f_is_list_within => (refine' Gd.fn_mk KX G (fun _ _ _ _ _ _ us hl => match us, hl with | [_, _, _, _, _], _ => rfl) ?a ?l ?c ?k; (case a => k_is); (case l => k_is); (case c => k_is); (case k => k_is))
      case f_lowest_terms => (refine' Gd.fn_mk KX G (fun _ _ _ _ _ _ us hl => match us, hl with | [_, _], _ => rfl) ?a ?l ?c ?k; (case a => k_is); (case l => k_is); (case c => k_is); (case k => k_is))
      case f_chance_to_take_over => (refine' Gd.fn_mk KX G (fun _ _ _ _ _ _ us hl => match us, hl with | [_, _, _, _], _ => rfl) ?a ?l ?c ?k; (case a => k_is); (case l => k_is); (case c => k_is); (case k => k_is))
      case f_step_chances => (refine' Gd.fn_mk KX G (fun _ _ _ _ _ _ us hl => match us, hl with | [_, _, _, _], _ => rfl) ?a ?l ?c ?k; (case a => k_is); (case l => k_is); (case c => k_is); (case k => k_is))
      case k_MOST_GENERATIONS => exact ⟨_, PySem.W.mg_of KX G (by k_is)⟩
      case k_MOST_RUNS => exact ⟨_, PySem.W.mg_of KX G (by k_is)⟩
      case k_MOST_LISTED_KINDS => exact ⟨_, PySem.W.mg_of KX G (by k_is)⟩
      case k_MOST_LISTED_COPIES => exact ⟨_, PySem.W.mg_of KX G (by k_is)⟩
      case k_HIGHEST_WEIGHT => exact ⟨_, PySem.W.mg_of KX G (by k_is)⟩
      case f_refusal_over_runs => (refine' Gd.fn_mk KX G (fun _ _ _ _ _ _ us hl => match us, hl with | [_, _, _, _], _ => rfl) ?a ?l ?c ?k; (case a => k_is); (case l => k_is); (case c => k_is); (case k => k_is))
      case f_answer_all => (refine' Gd.fn_mk KX G (fun _ _ _ _ _ _ us hl => match us, hl with | [_, _, _], _ => rfl) ?a ?l ?c ?k; (case a => k_is); (case l => k_is); (case c => k_is); (case k => k_is))
      case f_answer_ways => (refine' Gd.fn_mk KX G (fun _ _ _ _ _ _ us hl => match us, hl with | [_, _, _], _ => rfl) ?a ?l ?c ?k; (case a => k_is); (case l => k_is); (case c => k_is); (case k => k_is))
      case f_answer_first => (refine' Gd.fn_mk KX G (fun _ _ _ _ _ _ us hl => match us, hl with | [_, _, _], _ => rfl) ?a ?l ?c ?k; (case a => k_is); (case l => k_is); (case c => k_is); (case k => k_is))
      case f_answer_merge => (refine' Gd.fn_mk KX G (fun _ _ _ _ _ _ us hl => match us, hl with | [_, _, _], _ => rfl) ?a ?l ?c ?k; (case a => k_is); (case l => k_is); (case c => k_is); (case k => k_is))
      case f_answer_alike => (refine' Gd.fn_mk KX G (fun _ _ _ _ _ _ us hl => match us, hl with | [_, _, _], _ => rfl) ?a ?l ?c ?k; (case a => k_is); (case l => k_is); (case c => k_is); (case k => k_is))
      case f_answer_unlike => (refine' Gd.fn_mk KX G (fun _ _ _ _ _ _ us hl => match us, hl with | [_, _, _], _ => rfl) ?a ?l ?c ?k; (case a => k_is); (case l => k_is); (case c => k_is); (case k => k_is))
      case f_are_amounts_of_kinds => (refine' Gd.fn_mk KX G (fun _ _ _ _ _ _ us hl => match us, hl with | [_, _], _ => rfl) ?a ?l ?c ?k; (case a => k_is); (case l => k_is); (case c => k_is); (case k => k_is))
      case f_answer_toward => (refine' Gd.fn_mk KX G (fun _ _ _ _ _ _ us hl => match us, hl with | [_, _, _], _ => rfl) ?a ?l ?c ?k; (case a => k_is); (case l => k_is); (case c => k_is); (case k => k_is))
      case f_are_copies_and_weights => (refine' Gd.fn_mk KX G (fun _ _ _ _ _ _ us hl => match us, hl with | [_, _], _ => rfl) ?a ?l ?c ?k; (case a => k_is); (case l => k_is); (case c => k_is); (case k => k_is))
      case f_answer_takes => (refine' Gd.fn_mk KX G (fun _ _ _ _ _ _ us hl => match us, hl with | [_, _, _], _ => rfl) ?a ?l ?c ?k; (case a => k_is); (case l => k_is); (case c => k_is); (case k => k_is))
      case f_answer_chances => (refine' Gd.fn_mk KX G (fun _ _ _ _ _ _ us hl => match us, hl with | [_, _, _], _ => rfl) ?a ?l ?c ?k; (case a => k_is); (case l => k_is); (case c => k_is); (case k => k_is))
      case d_COUNTING_CALLS => (refine' Gd.dict_mk KX G ?a ?l ?e ?m ?r; (case a => k_is); (case l => k_is); (case e => decide +kernel); (case m => decide +kernel); (case r => exact ⟨by decide +kernel, (show _ = _ from (PySem.W.mg_of KX G (by k_is)).symm), (show _ = _ from (PySem.W.mg_of KX G (by k_is)).symm), (show _ = _ from (PySem.W.mg_of KX G (by k_is)).symm), (show _ = _ from (PySem.W.mg_of KX G (by k_is)).symm), (show _ = _ from (PySem.W.mg_of KX G (by k_is)).symm), (show _ = _ from (PySem.W.mg_of KX G (by k_is)).symm), (show _ = _ from (PySem.W.mg_of KX G (by k_is)).symm), (show _ = _ from (PySem.W.mg_of KX G (by k_is)).symm), (show _ = _ from (PySem.W.mg_of KX G (by k_is)).symm)⟩))
      case f_is_counting_call => (refine' Gd.fn_mk KX G (fun _ _ _ _ _ _ us hl => match us, hl with | [_], _ => rfl) ?a ?l ?c ?k; (case a => k_is); (case l => k_is); (case c => k_is); (case k => k_is))
      case f_answer_counting => (refine' Gd.fn_mk KX G (fun _ _ _ _ _ _ us hl => match us, hl with | [_, _, _, _], _ => rfl) ?a ?l ?c ?k; (case a => k_is); (case l => k_is); (case c => k_is); (case k => k_is))
      case f_parents_of => (refine' Gd.fn_mk KX G (fun _ _ _ _ _ _ us hl => match us, hl with | [_, _], _ => rfl) ?a ?l ?c ?k; (case a => k_is); (case l => k_is); (case c => k_is); (case k => k_is))
      case f_ancestors_of => (refine' Gd.fn_mk KX G (fun _ _ _ _ _ _ us hl => match us, hl with | [_, _, _], _ => rfl) ?a ?l ?c ?k; (case a => k_is); (case l => k_is); (case c => k_is); (case k => k_is))
      case f_common_ancestor => (refine' Gd.fn_mk KX G (fun _ _ _ _ _ _ us hl => match us, hl with | [_, _], _ => rfl) ?a ?l ?c ?k; (case a => k_is); (case l => k_is); (case c => k_is); (case k => k_is))
      case k_MOST_COPIES => exact ⟨_, PySem.W.mg_of KX G (by k_is)⟩
      case k_HIGHEST_KIND => exact ⟨_, PySem.W.mg_of KX G (by k_is)⟩
      case k_HIGHEST_GENERATION => exact ⟨_, PySem.W.mg_of KX G (by k_is)⟩
      case f_answer_found => (refine' Gd.fn_mk KX G (fun _ _ _ _ _ _ us hl => match us, hl with | [_, _, _], _ => rfl) ?a ?l ?c ?k; (case a => k_is); (case l => k_is); (case c => k_is); (case k => k_is))
      case f_answer_now => (refine' Gd.fn_mk KX G (fun _ _ _ _ _ _ us hl => match us, hl with | [_, _, _], _ => rfl) ?a ?l ?c ?k; (case a => k_is); (case l => k_is); (case c => k_is); (case k => k_is))
      case f_answer_turn => (refine' Gd.fn_mk KX G (fun _ _ _ _ _ _ us hl => match us, hl with | [_, _, _], _ => rfl) ?a ?l ?c ?k; (case a => k_is); (case l => k_is); (case c => k_is); (case k => k_is))
      case f_answer_undo => (refine' Gd.fn_mk KX G (fun _ _ _ _ _ _ us hl => match us, hl with | [_, _, _], _ => rfl) ?a ?l ?c ?k; (case a => k_is); (case l => k_is); (case c => k_is); (case k => k_is))
      case f_answer_number => (refine' Gd.fn_mk KX G (fun _ _ _ _ _ _ us hl => match us, hl with | [_, _, _], _ => rfl) ?a ?l ?c ?k; (case a => k_is); (case l => k_is); (case c => k_is); (case k => k_is))
      case f_answer_back => (refine' Gd.fn_mk KX G (fun _ _ _ _ _ _ us hl => match us, hl with | [_, _, _], _ => rfl) ?a ?l ?c ?k; (case a => k_is); (case l => k_is); (case c => k_is); (case k => k_is))
      case f_answer_common => (refine' Gd.fn_mk KX G (fun _ _ _ _ _ _ us hl => match us, hl with | [_, _, _], _ => rfl) ?a ?l ?c ?k; (case a => k_is); (case l => k_is); (case c => k_is); (case k => k_is))
      case f_answer_lines => (refine' Gd.fn_mk KX G (fun _ _ _ _ _ _ us hl => match us, hl with | [_, _, _], _ => rfl) ?a ?l ?c ?k; (case a => k_is); (case l => k_is); (case c => k_is); (case k => k_is))
      case d_HISTORY_CALLS => (refine' Gd.dict_mk KX G ?a ?l ?e ?m ?r; (case a => k_is); (case l => k_is); (case e => decide +kernel); (case m => decide +kernel); (case r => exact ⟨by decide +kernel, (show _ = _ from (PySem.W.mg_of KX G (by k_is)).symm), (show _ = _ from (PySem.W.mg_of KX G (by k_is)).symm), (show _ = _ from (PySem.W.mg_of KX G (by k_is)).symm), (show _ = _ from (PySem.W.mg_of KX G (by k_is)).symm), (show _ = _ from (PySem.W.mg_of KX G (by k_is)).symm), (show _ = _ from (PySem.W.mg_of KX G (by k_is)).symm), (show _ = _ from (PySem.W.mg_of KX G (by k_is)).symm), (show _ = _ from (PySem.W.mg_of KX G (by k_is)).symm)⟩))
      case f_is_history_call => (refine' Gd.fn_mk KX G (fun _ _ _ _ _ _ us hl => match us, hl with | [_], _ => rfl) ?a ?l ?c ?k; (case a => k_is); (case l => k_is); (case c => k_is); (case k => k_is))
      case f_answer_history => (refine' Gd.fn_mk KX G (fun _ _ _ _ _ _ us hl => match us, hl with | [_, _, _, _], _ => rfl) ?a ?l ?c ?k; (case a => k_is); (case l => k_is); (case c => k_is); (case k => k_is))
      case c_Population => exact PySem.W.mg_of KX G (by k_is)
      case k_Population => (refine' ⟨?a, ?b, ?c, ?d⟩; (case a => k_is); (case b => k_is); (case c => k_is); (case d => k_is))
      case n_Population_draw_rows => (show PySem.W.findIn _ _ _ = _; k_is)
      case n_Population_kind_rows => (show PySem.W.findIn _ _ _ = _; k_is)
      case i_Population => (refine' Gd.fi_mk (fun _ _ _ _ _ _ us hl => match us, hl with | [_], _ => rfl) ?m ?a ?i ?n ?l ?c ?k; (case m => k_is); (case a => k_is); (case i => k_is); (case n => k_is); (case l => k_is); (case c => k_is); (case k => k_is))
      case m_Population_has_copies => (refine' Gd.fm_mk (fun _ _ _ _ _ _ us hl => match us, hl with | [_], _ => rfl) ?a ?i ?l ?c ?k; (case a => k_is); (case i => k_is); (case l => k_is); (case c => k_is); (case k => k_is))
      case m_Population_generation => (refine' Gd.fm_mk (fun _ _ _ _ _ _ us hl => match us, hl with | [_], _ => rfl) ?a ?i ?l ?c ?k; (case a => k_is); (case i => k_is); (case l => k_is); (case c => k_is); (case k => k_is))
      case m_Population_size => (refine' Gd.fm_mk (fun _ _ _ _ _ _ us hl => match us, hl with | [_], _ => rfl) ?a ?i ?l ?c ?k; (case a => k_is); (case i => k_is); (case l => k_is); (case c => k_is); (case k => k_is))
      case m_Population_newest_kinds => (refine' Gd.fm_mk (fun _ _ _ _ _ _ us hl => match us, hl with | [_], _ => rfl) ?a ?i ?l ?c ?k; (case a => k_is); (case i => k_is); (case l => k_is); (case c => k_is); (case k => k_is))
      case m_Population_begin => (refine' Gd.fm_mk (fun _ _ _ _ _ _ us hl => match us, hl with | [_, _], _ => rfl) ?a ?i ?l ?c ?k; (case a => k_is); (case i => k_is); (case l => k_is); (case c => k_is); (case k => k_is))
      case m_Population_turn => (refine' Gd.fm_mk (fun _ _ _ _ _ _ us hl => match us, hl with | [_, _], _ => rfl) ?a ?i ?l ?c ?k; (case a => k_is); (case i => k_is); (case l => k_is); (case c => k_is); (case k => k_is))
      case m_Population_undo => (refine' Gd.fm_mk (fun _ _ _ _ _ _ us hl => match us, hl with | [_], _ => rfl) ?a ?i ?l ?c ?k; (case a => k_is); (case i => k_is); (case l => k_is); (case c => k_is); (case k => k_is))
      case d_SHAPES => (refine' Gd.dict_mk KX G ?a ?l ?e ?m ?r; (case a => k_is); (case l => k_is); (case e => decide +kernel); (case m => decide +kernel); (case r => exact ⟨Gd.ktup_at rfl (by k_is), Gd.ktup_at rfl (by k_is), Gd.ktup_at rfl (by k_is), Gd.ktup_at rfl (by k_is), Gd.ktup_at rfl (by k_is), Gd.ktup_at rfl (by k_is), Gd.ktup_at rfl (by k_is), Gd.ktup_at rfl (by k_is), Gd.ktup_at rfl (by k_is), Gd.ktup_at rfl (by k_is), Gd.ktup_at rfl (by k_is), Gd.ktup_at rfl (by k_is), Gd.ktup_at rfl (by k_is), Gd.ktup_at rfl (by k_is), Gd.ktup_at rfl (by k_is), Gd.ktup_at rfl (by k_is), Gd.ktup_at rfl (by k_is)⟩))
      case c_Reader => exact PySem.W.mg_of KX G (by k_is)
      case k_Reader => (refine' ⟨?a, ?b, ?c, ?d⟩; (case a => k_is); (case b => k_is); (case c => k_is); (case d => k_is))
      case n_Reader_numbers => (show PySem.W.findIn _ _ _ = _; k_is)
      case n_Reader_place => (show PySem.W.findIn _ _ _ = _; k_is)
      case i_Reader => (refine' Gd.fi_mk (fun _ _ _ _ _ _ us hl => match us, hl with | [_, _], _ => rfl) ?m ?a ?i ?n ?l ?c ?k; (case m => k_is); (case a => k_is); (case i => k_is); (case n => k_is); (case l => k_is); (case c => k_is); (case k => k_is))
      case m_Reader_is_at_end => (refine' Gd.fm_mk (fun _ _ _ _ _ _ us hl => match us, hl with | [_], _ => rfl) ?a ?i ?l ?c ?k; (case a => k_is); (case i => k_is); (case l => k_is); (case c => k_is); (case k => k_is))
      case m_Reader_take => (refine' Gd.fm_mk (fun _ _ _ _ _ _ us hl => match us, hl with | [_, _], _ => rfl) ?a ?i ?l ?c ?k; (case a => k_is); (case i => k_is); (case l => k_is); (case c => k_is); (case k => k_is))
      case f_shape_of => (refine' Gd.fn_mk KX G (fun _ _ _ _ _ _ us hl => match us, hl with | [_], _ => rfl) ?a ?l ?c ?k; (case a => k_is); (case l => k_is); (case c => k_is); (case k => k_is))
      case f_read_call => (refine' Gd.fn_mk KX G (fun _ _ _ _ _ _ us hl => match us, hl with | [_], _ => rfl) ?a ?l ?c ?k; (case a => k_is); (case l => k_is); (case c => k_is); (case k => k_is))
      case f_read_calls => (refine' Gd.fn_mk KX G (fun _ _ _ _ _ _ us hl => match us, hl with | [_], _ => rfl) ?a ?l ?c ?k; (case a => k_is); (case l => k_is); (case c => k_is); (case k => k_is))
      case k_FOUND => exact ⟨_, PySem.W.mg_of KX G (by k_is)⟩
      case f_is_call => (refine' Gd.fn_mk KX G (fun _ _ _ _ _ _ us hl => match us, hl with | [_], _ => rfl) ?a ?l ?c ?k; (case a => k_is); (case l => k_is); (case c => k_is); (case k => k_is))
      case f_answer_call => (refine' Gd.fn_mk KX G (fun _ _ _ _ _ _ us hl => match us, hl with | [_, _], _ => rfl) ?a ?l ?c ?k; (case a => k_is); (case l => k_is); (case c => k_is); (case k => k_is))
      case b_len => exact PySem.W.mg_none_of KX G (by k_is)
      case b_list => exact PySem.W.mg_none_of KX G (by k_is)
      case b_set => exact PySem.W.mg_none_of KX G (by k_is)
      case b_range => exact PySem.W.mg_none_of KX G (by k_is)
      case b_sum => exact PySem.W.mg_none_of KX G (by k_is)
  case S =>
    intro K H xs a hO hwi hask hx
    cases hx with
    | cons h1 h2 =>
      cases h2
      cases h1 with
      | lst hs ha =>
        have e := L2.ints_dw a.1 _ ha
        subst e
        have q : ((Codec.inLen 0 16000 a.1 && a.1.all (Codec.inInt _ _)) && true) = true := hwi
        rw [Bool.and_eq_true, Bool.and_eq_true] at q
        have hask : PyVbecaj.answers_asked a.1 = true := hask
        cases hc : PyVbecaj.calls a.1 with
        | none => unfold PyVbecaj.answers_asked at hask; rw [hc] at hask; cases hask
        | some cs =>
          unfold PyVbecaj.answers_asked at hask
          rw [hc, Bool.and_eq_true] at hask
          have h400 : cs.length ≤ 400 := of_decide_eq_true hask.1
          obtain ⟨hput, hok⟩ := Gd.calls_some hc
          have ea : PyVbecaj.answers a.1 = Gd.toldOf cs := by unfold PyVbecaj.answers; rw [hc]; rfl
          refine ⟨_, a.1, cs, rfl, hs, (Codec.inNat_iff.mp q.1.1).2, hput, hok, h400, fun H' p hp => ?_⟩
          show L2.Dw K H' (.ref p) (.list ((PyVbecaj.answers a.1).map WData.int))
          rw [ea]
          exact .lst (L2.SqL.of hp) (L2.dw_ints _)
#print axioms PySem.Challenge.cw_genedrift_s01_answers_holds
end
